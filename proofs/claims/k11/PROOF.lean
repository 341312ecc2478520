import PyProof.Rows.All
import Wide.All
import OpenK.AllK
import Wide.FinOn
import HandS.Base
import HandS.Call
import HandS.ForMost
import HandS.Star
import HandS.Defaults
import KE.KOpsOwn
import HandS.OwnEq
import HandS.Wide
import HandS.FStr
import HandS.DictComp
import HandS.ClsMeth
import HandS.IsInst
import HandS.StrMore
import HandS.Walk
import PySem.Challenge.RW_owedanswers_k11_functions_read
import KE.KCallOwn
import PyProof.InstNe
import HandS.More
import HandS.RaiseMore
import KE.KRevSl
import KE.GoesEnum
import HandS.Iter
import HandS.SetFor
import PyProof.Rows.CountFlat
import HandS.SetBool
import HandS.SetKeys
import KE.KExcSuper
import HandS.Exc
import HandS.ExcInit
import HandS.Words
import HandS.WordsExc
import HandS.TryMany
import HandS.ExcField
import HandS.ExcIs
import HandS.ExcOwn
import PyProof.StrLawsRepr
import HandS.CallSlots
import HandS.Codes
import PyProof.Rows.StrMul
import HandS.Flow
import PyProof.StrBlockL
import HandS.Text
import HandS.CallLocal
import OpenK.KOps
import HandS.Strs
import PyProof.SetRoads
import HandS.Conv
import KE.RegKSuper
set_option Elab.async false
set_option linter.all false
set_option maxRecDepth 100000
namespace KwX
open PySem PySem.Spec PyProof.Rows

section
variable {prog : Program} {w : World} {K : Type} [DecidableEq K] {knd : KeyKind prog w K} {A : Around} {E : Value → Shared → Prop} {s : Shared}

theorem find_none {d : Addr} {kvs : List (K × Value)} {k : K} {key : Value} {Q : Option Nat → Shared → Prop} (hkey : knd.is k key = true) (hm : s.heap.DictOf knd d kvs) (hn : k ∉ kvs.map (·.1)) (h : Q none s) :
    wpAny (model prog w) A (dictFind d key (knd.hash k)) Q E s := by
  obtain ⟨o, es, ep, ho, hc, hd, hk, hp, _⟩ := hm
  refine wpAny_dictFind_of hkey ho hd hk ?_
  have hidx : (es.findIdx? fun e => knd.is k e.key) = kvs.findIdx? fun kv => decide (kv.1 = k) := by
    rw [← hp.findIdx k]; obtain ⟨l⟩ := es; simp
  have hno : (kvs.findIdx? fun kv => decide (kv.1 = k)) = none := by
    rw [List.findIdx?_eq_none_iff]
    intro x hx
    refine decide_eq_false fun e => hn ?_
    exact List.mem_map.mpr ⟨x, hx, e⟩
  rw [hidx, hno]
  exact h
theorem put_new {d : Addr} {kvs : List (K × Value)} {k : K} {key v : Value} {Q : Unit → Shared → Prop} (hkey : knd.is k key = true) (hm : s.heap.DictOf knd d kvs) (hn : k ∉ kvs.map (·.1)) (hsz : kvs.length ≤ sizeLine)
    (h : ∀ h', h'.DictOf knd d (kvs ++ [(k, v)]) → Heap.SameBut d s.heap h' → Q () { s with heap := h' }) :
    wpAny (model prog w) A (dictPut d (knd.hash k) key v) Q E s := by
  unfold dictPut
  refine wpAny_bind (find_none hkey hm hn ?_)
  obtain ⟨o, es, ep, ho, hc, hd, hk, hp, hnd⟩ := hm
  have hes : es.size ≤ sizeLine := by have e1 := hp.length; have e2 : es.toList.length = es.size := by simp
                                      omega
  refine wpAny_updateDictKeys (hz := hes) ho hd (h _ ⟨_, _, ep + 1, Heap.get?_update_self _ ho (Obj.isFreed_of_dict (Obj.data_mapDictKeys hd _)),
      hc.mapDictKeys _, Obj.data_mapDictKeys hd _, hk.push hkey _, ?_, ?_⟩ (Heap.SameBut.update ..))
  · have := hp.append hkey (knd.hash k) v
    obtain ⟨l⟩ := es
    simpa using this
  · rw [List.map_append, List.nodup_append]
    refine ⟨hnd, by simp, ?_⟩
    intro a ha b hb
    simp only [List.map_cons, List.map_nil, List.mem_singleton] at hb
    subst hb
    exact fun e => hn (e ▸ ha)
theorem wpAny_merge_new {d o : Addr} {more : List (K × Value)} {Q : Unit → Shared → Prop} (hdo : d ≠ o) (hoS : (o == sysModules) = false)
    (hd : s.heap.DictOf knd d []) (ho : s.heap.DictOf knd o more) (hfl : ∀ k v, knd.is k v = true → ∀ a, v ≠ .ref a) (hsz : more.length ≤ sizeLine)
    (hQ : ∀ h', h'.DictOf knd d more → h'.DictOf knd o more → Heap.SameBut d s.heap h' → Q () { s with heap := h' }) :
    wpAny (model prog w) A (mergeMapping d (.ref o) true) Q E s := by
  obtain ⟨od, esd, epd, hod, hcd, hdd, hkd, hpd, hnd⟩ := id hd
  obtain ⟨oo, eso, epo, hoo, hco, hdo', hko, hpo, hno⟩ := id ho
  have hlen : more.length = eso.size := by rw [← hpo.length]; simp
  have hT : s.TypeIs (.ref o) "dict" := ho.typeIs
  have hlk := F.slot_dict_iter.lookup
  have hsub := isSubtype_dict_dict
  have hdt : s.TypeIs (.ref d) "dict" := hd.typeIs
  obtain ⟨hp0, g, dr, tk, os⟩ := s
  unfold mergeMapping
  repeat (first | with_reducible refine wpAny_dictEntries hod hdd ?_ | with_reducible refine wpAny_dictEntries hoo hdo' ?_ | with_reducible refine wpAny_dictEpoch hoo hdo' ?_ | wp_step)
  have he0 : esd = #[] := by
    have e1 := hpd.length
    simp only [Array.length_toList, List.length_nil] at e1
    exact Array.eq_empty_of_size_eq_zero e1
  rw [if_pos (by rw [he0]; rfl)]
  have key : ∀ (i : Nat) (hi : i < eso.size), ∃ kv, more[i]? = some kv ∧ knd.is kv.1 eso[i].key = true ∧ eso[i].hash = knd.hash kv.1 ∧ eso[i].val = kv.2 := fun i hi => by
    obtain ⟨⟨k, v⟩, hkv⟩ : ∃ kv, more[i]? = some kv := ⟨more[i]'(by rw [hlen]; exact hi), List.getElem?_eq_getElem _⟩
    obtain ⟨hkey, hval⟩ := hpo.get? (e := eso[i]) (by simp [hi]) hkv
    obtain ⟨k', hkey', hhash⟩ := hko eso[i] (Array.getElem_mem hi)
    obtain rfl : k' = k := knd.inj _ _ _ hkey' hkey
    exact ⟨_, hkv, hkey, hhash, hval⟩
  refine wpAny_bind (wpAny_dictEntries hoo hdo' ?_)
  refine wpAny_bind ?_
  refine MeetsSeq2.wpAny_forIn_array _ (fun rest _ s' => s' = ⟨hp0, g, dr, tk, os⟩ ∧ ∀ e ∈ rest, e ∈ eso) _ ?_ ?_ _ _ ⟨rfl, fun e he => Array.mem_toList_iff.mp he⟩
  · rintro e rest b s' ⟨rfl, hr⟩
    obtain ⟨i, hi, rfl⟩ := Array.mem_iff_getElem.mp (hr e List.mem_cons_self)
    obtain ⟨kv, _, hk1, _, _⟩ := key i hi
    have hnr := hfl _ _ hk1
    split
    · rename_i a ha
      exact absurd ha (hnr a)
    · exact wpAny_pure ⟨rfl, fun e he => hr e (List.mem_cons_of_mem _ he)⟩
  · rintro b s' ⟨rfl, _⟩
    refine wpAny_bind (wpAny_dictEntries hoo hdo' ?_)
    refine wpAny_bind (wpAny_dictEpoch hoo hdo' ?_)
    refine wpAny_bind ?_
    rw [List.range_eq_range']
    refine wpAny_forIn_list _
      (fun rest _ s' => ∃ h' i, s' = (⟨h', g, dr, tk, os⟩ : Shared) ∧ rest = List.range' i (eso.size - i) ∧ i ≤ eso.size ∧ h'.DictOf knd d (more.take i) ∧ h'.get? o = some oo ∧ Heap.SameBut d hp0 h')
      _ ?_ ?_ _ _ ⟨hp0, 0, rfl, by simp, Nat.zero_le _, by simpa using hd, hoo, Heap.SameBut.refl _ _⟩
    · rintro x rest b s' ⟨h', i, rfl, hr, hi, hd', hoo', hs'⟩
      have hlt : i < eso.size := by
        rcases Nat.lt_or_ge i eso.size with h | h
        · exact h
        · rw [Nat.sub_eq_zero_of_le h] at hr; simp at hr
      obtain ⟨rfl, hrest⟩ : x = i ∧ rest = List.range' (i + 1) (eso.size - (i + 1)) := by
        have e : eso.size - i = (eso.size - (i + 1)) + 1 := by omega
        rw [e, List.range'_succ] at hr
        injection hr with h1 h2
        exact ⟨h1, h2⟩
      refine wpAny_bind (wpAny_dictEntries hoo' hdo' ?_)
      rw [Array.getElem?_eq_getElem hlt]
      obtain ⟨⟨k, v⟩, hkv, hkey, hhash, hval⟩ := key x hlt
      have hmx : (more.take x).length ≤ sizeLine := by rw [List.length_take]; omega
      have hnew : k ∉ (more.take x).map (·.1) := fun hm => by
        rw [List.map_take] at hm
        obtain ⟨j, hj, ej⟩ := List.getElem_of_mem hm
        have hj' : j < x := by rw [List.length_take] at hj; omega
        have hx2 : (more.map (·.1))[x]? = some k := by rw [List.getElem?_map, hkv]; rfl
        have hj2 : (more.map (·.1))[j]? = some k := by
          rw [List.getElem_take] at ej
          rw [← ej]
          exact List.getElem?_eq_getElem _
        have := (List.getElem?_inj (i := j) (by rw [List.length_map]; omega) hno).mp (hj2.trans hx2.symm)
        omega
      show wpAny _ _ (holding [eso[x].key, eso[x].val] _ >>= _) _ _ _
      refine wpAny_bind (wpAny_holding ?_)
      rw [hhash, hval]
      refine wpAny_bind (find_none hkey hd' hnew ?_)
      show wpAny _ _ (dictPut d (knd.hash k) eso[x].key v) _ _ _
      refine put_new hkey hd' hnew hmx fun h'' hd'' hs'' => ?_
      have hoo'' : h''.get? o = some oo := (hs''.2 o (Ne.symm hdo)).trans hoo'
      refine wpAny_bind (wpAny_dictEpoch hoo'' hdo' ?_)
      rw [if_neg (by simp)]
      refine wpAny_pure ⟨h'', x + 1, rfl, hrest, hlt, ?_, hoo'', hs'.trans hs''⟩
      rw [List.take_add_one, hkv]
      exact hd''
    · rintro b s' ⟨h', i, rfl, hr, hi, hd', hoo', hs'⟩
      have hin : i = eso.size := by
        rcases Nat.lt_or_ge i eso.size with h | h
        · have e : eso.size - i = (eso.size - (i + 1)) + 1 := by omega
          rw [e, List.range'_succ] at hr; exact nomatch hr
        · exact Nat.le_antisymm hi h
      rw [hin, ← hlen, List.take_length] at hd'
      exact wpAny_pure (hQ h' hd' ⟨oo, eso, epo, hoo', hco, hdo', hko, hpo, hno⟩ hs')
end
end KwX

set_option Elab.async false
set_option linter.all false
set_option maxRecDepth 100000
namespace KwX
open PySem PySem.Spec PyProof.Rows

section
variable {prog : Program} {w : World} {A : Around} {E : Value → Shared → Prop} {s : Shared}
theorem nsSet_new {d : Addr} {kvs : List (L2.Key × Value)} {x : Str} {v : Value} {Q : Unit → Shared → Prop} (hm : s.heap.DictOf (L2.mixKind prog w) d kvs) (hn : (Sum.inr x : L2.Key) ∉ kvs.map (·.1))
    (h : ∀ h', h'.DictOf (L2.mixKind prog w) d (kvs ++ [(Sum.inr x, v)]) → Heap.SameBut d s.heap h' → Q () { s with heap := h', toks := s.toks + 1 }) :
    wpAny (model prog w) A (nsSet d x v) Q E s := fun Γ p _ => by
  obtain ⟨o, es, ep, ho, hc, hd, hk, hp, hnd⟩ := hm
  simp only [nsSet, strHash, Sem.wp_bind', Sem.wp_cmd_ask, Sem.wp_pure', Sem.wp_cmd_mkText]
  rw [Sem.wp_loadPart_of _ Γ _ p { s with toks := s.toks + 1 } (o := o) _ ho]
  have hany : es.any (·.refKey) = false := by
    rw [Array.any_eq_false']
    intro e he
    obtain ⟨k, h1, _⟩ := hk e he
    rcases L2.keyIs_shape (show L2.keyIs k e.key = true from h1) with ⟨i, t, _, e1⟩ | ⟨y, t, _, e1⟩ <;> simp [DictEntry.refKey, e1]
  simp only [hd, aRefKeyMayBeTheName_eq, aRefKeyMayBeTheNameByArray, hany, Bool.and_false, Bool.false_eq_true, if_false, Sem.wp_cmd_updatePart]
  refine ⟨by rw [ho]; rfl, h _ ?_ (Heap.SameBut.update ..)⟩
  obtain ⟨c, d', dt, sl⟩ := o
  simp only at hd
  subst hd
  have hfun : (fun e : DictEntry => e.key.isStr x) = fun e => (L2.mixKind prog w).is (Sum.inr x) e.key := funext fun e => ((L2.mixKind prog w).strs (Sum.inr x) x 0 e.key (L2.keyIs_str x 0)).symm
  have hi : es.findIdx? (·.key.isStr x) = none := by
    rw [hfun]
    have hidx : (es.findIdx? fun e => (L2.mixKind prog w).is (Sum.inr x) e.key) = kvs.findIdx? fun kv => decide (kv.1 = Sum.inr x) := by
      rw [← hp.findIdx (Sum.inr x)]; obtain ⟨l⟩ := es; simp
    rw [hidx, List.findIdx?_eq_none_iff]
    intro z hz
    exact decide_eq_false fun e => hn (List.mem_map.mpr ⟨z, hz, e⟩)
  refine ⟨_, es.push ⟨hashStr w x, .str x s.toks, v⟩, ep + 1, Heap.get?_update_self _ ho (by simp only [Obj.putName_eq, Obj.putNameByArray, hi]; rfl), by simp only [Obj.putName_eq, Obj.putNameByArray, hi]; exact hc, by simp only [Obj.putName_eq, Obj.putNameByArray, hi]; rfl, (show PySem.KeysOf (L2.mixKind prog w) (es.push ⟨(L2.mixKind prog w).hash (Sum.inr x), .str x s.toks, v⟩) from hk.push (L2.mixKind_str prog w x s.toks) v), ?_, ?_⟩
  · have := hp.append (L2.mixKind_str prog w x s.toks) (hashStr w x) v
    obtain ⟨l⟩ := es
    simpa using this
  · rw [List.map_append, List.nodup_append]
    refine ⟨hnd, by simp, ?_⟩
    intro a ha b hb
    simp only [List.map_cons, List.map_nil, List.mem_singleton] at hb
    subst hb
    exact fun e => hn (e ▸ ha)

/-- the keywords of a dict of texts -/
def kwOf (vs : List (L2.Key × Value)) : List (Str × Value) := vs.filterMap fun p => match p.1 with
  | .inr x => some (x, p.2)
  | .inl _ => none
theorem keywordsIn_ok {f : Value} {d : Addr} {vs : List (L2.Key × Value)} {Q : List (Str × Value) → Shared → Prop} (hm : s.heap.DictOf (L2.mixKind prog w) d vs) (hs : ∀ p ∈ vs, ∃ x, p.1 = Sum.inr x) (h : Q (kwOf vs) s) :
    wpAny (model prog w) A (keywordsIn f d) Q E s := by
  obtain ⟨o, es, ep, ho, hc, hd, hk, hp, hnd⟩ := hm
  unfold keywordsIn
  refine wpAny_bind (wpAny_dictEntries ho hd ?_)
  refine wpAny_bind ?_
  refine MeetsSeq2.wpAny_forIn_array _ (fun rest kw s' => s' = s ∧ ∃ (vs2 : List (L2.Key × Value)), Pairs (L2.mixKind prog w) rest vs2 ∧ (∀ p ∈ vs2, ∃ x, p.1 = Sum.inr x) ∧ kwOf vs = kw ++ kwOf vs2) _ ?_ ?_ _ _ ⟨rfl, vs, hp, hs, rfl⟩
  · rintro e rest kw s' ⟨rfl, vs2, hp2, hs2, e2⟩
    cases hp2 with
    | @cons _ kv _ kvs h1 h2 h3 =>
      obtain ⟨x, ex⟩ := hs2 kv List.mem_cons_self
      obtain ⟨k, v⟩ := kv
      simp only at ex h2
      subst ex
      obtain ⟨t, et⟩ : ∃ t, e.key = .str x t := by
        rcases L2.keyIs_shape (show L2.keyIs (Sum.inr x) e.key = true from h1) with ⟨i, t, z, _⟩ | ⟨y, t, z, e1⟩
        · cases z
        · cases z; exact ⟨t, e1⟩
      rw [et]
      refine wpAny_pure ⟨rfl, kvs, h3, fun p hp => hs2 p (List.mem_cons_of_mem _ hp), ?_⟩
      rw [e2, h2]
      show kw ++ ((x, v) :: kwOf kvs) = (kw ++ [(x, v)]) ++ kwOf kvs
      rw [List.append_assoc]
      rfl
  · rintro kw s' ⟨rfl, vs2, hp2, hs2, e2⟩
    cases hp2
    have e3 : kwOf vs = kw := by rw [e2]; show kw ++ [] = kw; rw [List.append_nil]
    rw [← e3]
    exact wpAny_pure h
end
end KwX

set_option Elab.async false
set_option linter.all false
set_option maxRecDepth 100000
namespace KwX
open PySem PySem.Spec PyProof.Rows

section
variable {prog : Program} {w : World} {A : Around} {E : Value → Shared → Prop} {s : Shared}
abbrev dict0 : Obj := { cls := .type "dict", data := .dict #[] }
theorem mixFlat : ∀ (k : L2.Key) (v : Value), (L2.mixKind prog w).is k v = true → ∀ a, v ≠ .ref a := fun k v h a e => by
  subst e
  rcases L2.keyIs_shape (show L2.keyIs k (.ref a) = true from h) with ⟨i, t, _, e1⟩ | ⟨y, t, _, e1⟩ <;> cases e1
theorem merged_one {f : Value} {x : Sem Value} {Q : Addr → Shared → Prop}
    (h : wpAny (model prog w) A x (fun v s2 => ∃ (o : Addr) (more : List (L2.Key × Value)), v = .ref o ∧ s.heap.objs.size ≠ o ∧ (o == sysModules) = false ∧ s2.heap.DictOf (L2.mixKind prog w) s.heap.objs.size [] ∧ s2.heap.DictOf (L2.mixKind prog w) o more ∧ more.length ≤ sizeLine ∧
      ∀ h', h'.DictOf (L2.mixKind prog w) s.heap.objs.size more → h'.DictOf (L2.mixKind prog w) o more → Heap.SameBut s.heap.objs.size s2.heap h' → Q s.heap.objs.size { s2 with heap := h' }) E { s with heap := s.heap.push dict0 }) :
    wpAny (model prog w) A (mergedKeywords f [(none, x)]) Q E s := by
  unfold mergedKeywords
  refine wpAny_bind (wpAny_alloc ?_)
  refine wpAny_bind (wpAny_holding ?_)
  refine wpAny_bind ?_
  refine wpAny_forIn_list _ (fun rest g s' => g = [] ∧ ((rest = [(none, x)] ∧ s' = { s with heap := s.heap.push dict0 }) ∨ (rest = [] ∧ Q s.heap.objs.size s'))) _ ?_ ?_ _ _ ⟨rfl, .inl ⟨rfl, rfl⟩⟩
  · rintro ⟨nm, y⟩ rest g s' ⟨rfl, ⟨e1, rfl⟩ | ⟨e1, _⟩⟩
    · injection e1 with e1 e2
      injection e1 with e3 e4
      subst e2 e3 e4
      refine wpAny_bind (wpAny_pure ?_)
      refine wpAny_bind (wpAny_mono h (fun v s2 hv => ?_) fun _ _ z => z)
      obtain ⟨o, more, rfl, hne, hsm, h0, ho, hz, hq⟩ := hv
      refine wpAny_bind (wpAny_onRaise ?_)
      refine wpAny_holding (wpAny_tryCatch (wpAny_onRaise ?_))
      exact wpAny_merge_new hne hsm h0 ho mixFlat hz fun h' a b c => wpAny_pure ⟨rfl, .inr ⟨rfl, hq h' a b c⟩⟩
    · cases e1
  · rintro g s' ⟨rfl, ⟨e1, _⟩ | ⟨_, q⟩⟩
    · cases e1
    · exact wpAny_pure (wpAny_pure q)
theorem evalArgs_one {f : Value} {y : Sem Value} {rest : List (Bool × Sem Value)} {x : Sem Value} {Q : Args → Shared → Prop}
    (h : wpAny (model prog w) A (spliced ((false, y) :: rest)) (fun us s => wpAny (model prog w) A x (fun v s2 => ∃ (o : Addr) (more : List (L2.Key × Value)), v = .ref o ∧ s.heap.objs.size ≠ o ∧ (o == sysModules) = false ∧ s2.heap.DictOf (L2.mixKind prog w) s.heap.objs.size [] ∧ s2.heap.DictOf (L2.mixKind prog w) o more ∧ more.length ≤ sizeLine ∧ (∀ p ∈ more, ∃ x, p.1 = Sum.inr x) ∧
      ∀ h', h'.DictOf (L2.mixKind prog w) s.heap.objs.size more → h'.DictOf (L2.mixKind prog w) o more → Heap.SameBut s.heap.objs.size s2.heap h' → Q ⟨us, kwOf more⟩ { s2 with heap := h' }) E { s with heap := s.heap.push dict0 }) E s) :
    wpAny (model prog w) A (evalArgs f true ((false, y) :: rest) [(none, x)]) Q E s := by
  unfold evalArgs
  show wpAny _ _ (spliced ((false, y) :: rest) >>= _) Q E s
  refine wpAny_bind (wpAny_mono h (fun us s1 h1 => ?_) fun _ _ z => z)
  refine wpAny_bind (wpAny_pure ?_)
  refine wpAny_holding ?_
  show wpAny _ _ (mergedKeywords f [(none, x)] >>= _) Q E s1
  refine wpAny_bind (merged_one (wpAny_mono h1 (fun v s2 hv => ?_) fun _ _ z => z))
  obtain ⟨o, more, rfl, hne, hsm, h0, ho, hz, hks, hq⟩ := hv
  refine ⟨o, more, rfl, hne, hsm, h0, ho, hz, fun h' a b c => ?_⟩
  refine wpAny_bind (wpAny_pure ?_)
  exact wpAny_bind (wpAny_holding (keywordsIn_ok a hks (wpAny_pure (hq h' a b c))))
open PySem.W in
theorem callWith_one {K : Frag} {pos : Pos} {f : Value} {first : List Value} {y : Sem Value} {rest : List (Bool × Sem Value)} {x : Sem Value} {Q : Value → Shared → Prop} (hk : keepIn K f = true)
    (h : wpAny (model prog w) A (evalArgs f true ((false, y) :: rest) [(none, x)]) (fun a s₁ => K.In s₁.heap ∧ wpAny (model prog w) A (call f (first ++ a.pos) a.kw) Q E s₁) E s) :
    wpAny (model prog w) A (callWith pos f first ((false, y) :: rest) [(none, x)]) Q E s := by
  unfold callWith
  refine wpAny_bind (wpAny_holding (wpAny_mono h (fun a s₁ h₁ => wpAny_bind (wpAny_standAt ?_)) fun _ _ x => x))
  obtain ⟨hK, h₁⟩ := h₁
  obtain ⟨k, hk', L⟩ := keeps_K (M := model prog w) hk _ hK
  have hs : (((false, y) :: rest).any (·.1) || ([((none : Option Str), x)] : List (Option Str × Sem Value)).any (·.1.isNone)) = true := by simp
  simp only [hs]
  refine wpAny_bind (L.here ?_)
  have tail : ∀ {t : Sem Value}, wpAny (model prog w) A t Q E s₁ → wpAny (model prog w) A (t >>= fun r => holding [r] point >>= fun _ => pure r) Q E s₁ :=
    fun ht => wpAny_bind (wpAny_mono ht (fun r s₂ hr => wpAny_bind (wpAny_holding (wpAny_point (wpAny_pure hr)))) fun _ _ x => x)
  have marked (mk : Value) : wpAny (model prog w) A (callMarked mk f (first ++ a.pos) a.kw) Q E s₁ := by unfold callMarked; exact Calls.wpAny_keep h₁
  rcases hk' with rfl | rfl | rfl <;> dsimp only <;> first | exact tail (marked _) | exact tail (wpAny_operating h₁)
end
end KwX

set_option Elab.async false
set_option linter.all false
set_option maxRecDepth 100000
namespace KwX
open PySem PySem.Spec PyProof.Rows

section
variable {prog : Program} {w : World} {A : Around} {E : Value → Shared → Prop} {s : Shared}
def kwKeys (kw : List (Str × Value)) : List (L2.Key × Value) := kw.map fun p => (Sum.inr p.1, p.2)
theorem kwKeys_nodup {kw : List (Str × Value)} (h : (kw.map (·.1)).Nodup) : ((kwKeys kw).map (·.1)).Nodup := by
  unfold kwKeys
  rw [List.map_map]
  show (kw.map (Sum.inr ∘ fun p => p.1)).Nodup
  rw [← List.map_map]
  refine List.pairwise_map.mpr (List.Pairwise.imp (fun {a b} hab e => hab (Sum.inr.inj e)) h)
theorem nsSets {d : Addr} {Q : PUnit → Shared → Prop} : ∀ (kw : List (Str × Value)) (acc : List (L2.Key × Value)) {s : Shared}, s.heap.DictOf (L2.mixKind prog w) d acc → ((acc ++ kwKeys kw).map (·.1)).Nodup →
    (∀ h' t', h'.DictOf (L2.mixKind prog w) d (acc ++ kwKeys kw) → Heap.SameBut d s.heap h' → Q ⟨⟩ { s with heap := h', toks := t' }) →
    wpAny (model prog w) A (List.foldlM (fun (_ : PUnit) a => nsSet d a.fst a.snd) PUnit.unit kw) Q E s
  | [], acc, s, hm, _, hQ => by
    rw [List.foldlM_nil]
    have e : acc ++ kwKeys [] = acc := List.append_nil _
    exact wpAny_pure (hQ s.heap s.toks (by rw [e]; exact hm) (Heap.SameBut.refl _ _))
  | (k, v) :: kw, acc, s, hm, hn, hQ => by
    rw [List.foldlM_cons]
    have hn1 : (Sum.inr k : L2.Key) ∉ acc.map (·.1) := fun hmem => by
      rw [List.map_append, List.nodup_append] at hn
      exact hn.2.2 _ hmem (Sum.inr k) (by show Sum.inr k ∈ (kwKeys ((k, v) :: kw)).map (·.1); exact List.mem_cons_self) rfl
    have ea : acc ++ kwKeys ((k, v) :: kw) = (acc ++ [(Sum.inr k, v)]) ++ kwKeys kw := by rw [List.append_assoc]; rfl
    refine wpAny_bind (nsSet_new hm hn1 fun h1 hm1 hs1 => ?_)
    rw [ea] at hn hQ
    exact nsSets kw (acc ++ [(Sum.inr k, v)]) (s := { s with heap := h1, toks := s.toks + 1 }) hm1 hn fun h' t' a b => hQ h' t' a (hs1.trans b)
theorem bind_form {fd : FuncData} {a b dv : Value} {p1 p2 p3 : Arg} {kw : List (Str × Value)} {first : List Value} {Q : List (Str × Value) → Shared → Prop}
    (e1 : fd.params.posonlyargs = []) (e2 : fd.params.args = [p1, p2]) (n1 : p1.arg = "self") (n2 : p2.arg = "constant") (e3 : fd.params.kwonlyargs = []) (e4 : fd.params.vararg = none) (e5 : fd.params.kwarg = some p3) (n3 : p3.arg = "coefficients")
    (hd : PySem.W.Looks (model prog w) s.heap (seqItems? fd.defaults) (some #[dv]))
    (hf : first = [a, b] ∨ (first = [a] ∧ b = dv)) (hk : ∀ p ∈ kw, p.1 ≠ "self" ∧ p.1 ≠ "constant") (hnd : (kw.map (·.1)).Nodup) (hl : kw.length ≤ sizeLine)
    (h : ∀ h' t', (∀ c o, s.heap.get? c = some o → h'.get? c = some o) → h'.DictOf (L2.mixKind prog w) s.heap.objs.size (kwKeys kw) → Q [("self", a), ("constant", b), ("coefficients", .ref s.heap.objs.size)] { s with heap := h', toks := t' }) :
    wpAny (model prog w) A (bindArgs fd ⟨first, kw⟩) Q E s := by
  unfold bindArgs
  simp only [e1, e2, e3, e4, e5, List.map_nil, List.map_cons, List.nil_append, n1, n2]
  refine wpAny_bind ?_
  refine wpAny_forIn_list _ (fun rest (st : List (Str × Value) × List (Str × Value)) s' => s' = s ∧ kw = st.2 ++ rest ∧ st.1 = ([Str.ofString "self", Str.ofString "constant"].zip first)) _ ?_ ?_ _ _ ⟨rfl, rfl, rfl⟩
  · rintro ⟨k, v⟩ rest ⟨sl, ex⟩ s' ⟨rfl, ekw, esl⟩
    simp only at ekw esl
    obtain ⟨h1, h2⟩ := hk (k, v) (by rw [ekw]; exact List.mem_append_right _ List.mem_cons_self)
    have hc : ([Str.ofString "self", Str.ofString "constant"].contains k || ([] : List Str).contains k) = false := by
      have g1 : (k == Str.ofString "self") = false := beq_eq_false_iff_ne.mpr h1
      have g2 : (k == Str.ofString "constant") = false := beq_eq_false_iff_ne.mpr h2
      simp only [List.contains_cons, List.contains_nil, g1, g2, Bool.or_false]
    simp only [hc, Bool.false_eq_true, if_false, Option.isSome_some, if_true]
    exact wpAny_pure ⟨rfl, by rw [ekw, List.append_assoc]; rfl, esl⟩
  · rintro ⟨sl, ex⟩ s' ⟨rfl, ekw, esl⟩
    simp only [List.append_nil] at ekw esl
    subst ekw esl
    refine wpAny_bind (hd _ _ _ _ (fun _ _ z => z) ?_)
    have hlen : ¬ (decide (first.length > [Str.ofString "self", Str.ofString "constant"].length) && (none : Option Arg).isNone) = true := by
      rcases hf with rfl | ⟨rfl, _⟩ <;> simp
    have sc : (Str.ofString "constant" == Str.ofString "self") = false := by decide +kernel
    have cs : (Str.ofString "self" == Str.ofString "constant") = false := by decide +kernel
    rw [if_neg hlen]
    have hz : ¬ (kw.length > sizeLine + 1) := by omega
    have fin : wpAny (model prog w) A (do
        let d ← alloc { cls := Value.type "dict", data := Data.dict #[] }
        (fun (_ : PUnit) => [(Str.ofString "self", a), (Str.ofString "constant", b), (p3.arg, Value.ref d)]) <$> List.foldlM (fun (_ : PUnit) a => nsSet d a.fst a.snd) PUnit.unit kw) Q E s' := by
      refine wpAny_bind (wpAny_alloc ?_)
      rw [map_eq_pure_bind]
      refine wpAny_bind (nsSets kw [] (Heap.DictOf.new s'.heap) (by rw [List.nil_append]; exact kwKeys_nodup hnd) fun h' t' hd' hs' => ?_)
      rw [n3]
      rw [List.nil_append] at hd'
      exact wpAny_pure (h h' t' (fun c o e => (hs'.2 c (Nat.ne_of_lt (Heap.lt_size e))).trans (Heap.get?_push_of_some _ e)) hd')
    rcases hf with rfl | ⟨rfl, rfl⟩
    · simp [List.lookup_cons, sc, cs, hz]
      exact fin
    · simp [List.lookup_cons, sc, cs, hz]
      exact fin
end
end KwX

set_option Elab.async false
set_option linter.all false
set_option maxRecDepth 100000
set_option maxHeartbeats 1000000
namespace KwX
open PySem PySem.Spec PyProof.Rows L2

/-- keywords: names with values -/
abbrev KwR (ks : List (Str × V)) (kw : List (Str × Value)) : Prop := Paired (fun (p : Str × V) (q : Str × Value) => p.1 = q.1 ∧ RelV p.2 q.2) ks kw
def keyed (ks : List (Str × V)) : List (Key × V) := ks.map fun p => (Sum.inr p.1, p.2)
theorem kwR_keys : ∀ {ks : List (Str × V)} {kw : List (Str × Value)}, KwR ks kw → kw.map (·.1) = ks.map (·.1)
  | _, _, .nil => rfl
  | _, _, .cons h r => by
    rw [List.map_cons, List.map_cons, kwR_keys r, h.1]
theorem kwR_kv : ∀ {ks : List (Str × V)} {kw : List (Str × Value)}, KwR ks kw → KV (keyed ks) (kwKeys kw)
  | _, _, .nil => .nil
  | _, _, .cons h r => .cons ⟨congrArg Sum.inr h.1, h.2⟩ (kwR_kv r)
section
variable {P : Program} {w : World} {K : PySem.W.Frag} {mg : Str → Option Value} {base : Heap} {A : Around} {outer : List Env} {s : Shared} {H : Hp}
theorem env0_kept {h' : Heap} {t' : Nat} {u : HO} (e0 : Env0 P w K mg base A outer s H) (kp : ∀ b o, s.heap.get? b = some o → h'.get? b = some o) (new : ObjOk P w (upd H s.heap.objs.size u) h' s.heap.objs.size u) :
    Env0 P w K mg base A outer { s with heap := h', toks := t' } (upd H s.heap.objs.size u) := by
  refine ⟨e0.frames, e0.mod, fun b x e => ⟨kp b x (e0.bs b x e).1, ?_⟩, ?_, Heap.FunFrames.of_keeps (fun b x e _ => ⟨x, kp b x e, rfl⟩) e0.funs, fun b hb => ?_, e0.hok.laid kp (Nat.le_refl _) new, e0.bare⟩
  · rw [upd_ne (Nat.ne_of_lt (Heap.lt_size (e0.bs b x e).1))]
    exact (e0.bs b x e).2
  · exact Nat.le_trans e0.bsz (Nat.le_of_lt new.lt)
  · obtain ⟨_, x, hx, _⟩ := e0.funs.mem hb
    rw [upd_ne (Nat.ne_of_lt (Heap.lt_size hx))]
    exact e0.frf b hb
end
/-- the shape of a def (self, constant=.., **coefficients) -/
structure KwPar (p : Arguments) : Prop where
  e1 : p.posonlyargs = []
  e2 : ∃ a b, p.args = [a, b] ∧ a.arg = "self" ∧ b.arg = "constant"
  e3 : p.kwonlyargs = []
  e4 : p.vararg = none
  e5 : ∃ c, p.kwarg = some c ∧ c.arg = "coefficients"
/-- the values ahead: constant's own, or the default -/
def kwFirst (dv : V) : List V → V
  | [] => dv
  | c :: _ => c
/-- what such a def keeps -/
def KwOk (P : Program) (w : World) (K : PySem.W.Frag) (mg : Str → Option Value) (base : Heap) (k : Nat) (f : Addr) (dv : V) (sp : Sp) : Prop :=
  ∀ (A : Around) (outer : List Env) (s : Shared) (H : Hp) (v0 : V) (u0 : Value) (vs : List V) (us : List Value) (ks : List (Str × V)) (kw : List (Str × Value)) (Q : VK) (E : XK), Room k A → Env0 P w K mg base A outer s H →
    RelV v0 u0 → Vals vs us → vs.length ≤ 1 → KwR ks kw → (∀ p ∈ ks, p.1 ≠ "self" ∧ p.1 ≠ "constant") → (ks.map (·.1)).Nodup → ks.length ≤ sizeLine →
    (∀ d, H d = none → sp [v0, kwFirst dv vs, .ref d] (upd H d (.dK (keyed ks))) Q E) →
    codeAny (model P w) A (.call (.ref f) ⟨u0 :: us, kw⟩) (CR CX0 outer P w H s Q E) s
section
variable {P : Program} {w : World} {K : PySem.W.Frag} {mg : Str → Option Value} {base : Heap} {k : Nat} {f : Addr} {name qual : Str} {params : Arguments} {body : List Stmt} {scope : Scope} {N : List Str} {sp : Sp} {dv : V} {fd : FuncData}
/-- a call of such a def -/
theorem run_kwdef (F : FunD K name qual params body scope [dv] [] f fd) (hp : KwPar params) (S : FnScope N ["self", "constant", "coefficients"] scope)
    (hbody : ∀ (cdv : Value) (A : Around) (outer : List Env) (s : Shared) (H : Hp) (vs : List V) (Q : VK) (E : XK), Room k (A.deeper (envOfC qual scope s.heap.objs.size f cdv)) → sp vs H Q E →
      ∃ t, PSs (cxOf CX0 P w K mg base N qual scope f cdv A outer s H E).nox body t ∧ t { nx := fun _ H' => Q .non H', rt := Q } (start N vs) H)
: KwOk P w K mg base (k + 1) f dv sp := by
  intro A outer s H v0 u0 vs us ks kw Q E hr e0 r0 r hl rk hk hnd hz h
  obtain ⟨oc, od, dV, kV, doc, pm, an, cdv, ct, osl, rfl, lk, hcd, hD, _⟩ := F.ex
  obtain ⟨a1, a2, ea, en1, en2⟩ := hp.e2
  obtain ⟨a3, ea3, en3⟩ := hp.e5
  rcases hD with ⟨e, _⟩ | ⟨_, T, o, its, n, rfl, lT, oT, rT⟩
  · cases e
  cases rT with
  | @cons _ du _ _ rd rn =>
  cases rn
  have KX : K.In s.heap := e0.mod.kin.keeps fun b o e => (e0.bs b o e).1
  have hn : H s.heap.objs.size = Option.none := e0.hok.fresh (Nat.le_refl _)
  have hdef : PySem.W.Looks (model P w) s.heap (seqItems? (.ref T)) (some #[du]) := fun A Q E s kp q => wpAny_seqItems (kp _ _ (KX _ _ lT)) oT q
  obtain ⟨b, hf, rb⟩ : ∃ b, (u0 :: us = [u0, b] ∨ (u0 :: us = [u0] ∧ b = du)) ∧ RelV (kwFirst dv vs) b := by
    cases r with
    | nil => exact ⟨du, .inr ⟨rfl, rfl⟩, rd⟩
    | cons rx rr =>
      cases rr with
      | nil => exact ⟨_, .inl rfl, rx⟩
      | cons _ _ => exact absurd hl (by simp)
  have kk := kwR_keys rk
  refine StX.run_bnd (P := P) (w := w) (k := k) (ps := ["self", "constant", "coefficients"]) lk hcd S hr e0 (G := fun xs H2 => ∃ d, H d = Option.none ∧ xs = [v0, kwFirst dv vs, V.ref d] ∧ H2 = upd H d (.dK (keyed ks))) (fun A' Ex Q' hq => ?_) fun s2 H2 xs ⟨d, hd, ex, eH⟩ hr' => ?_
  · refine bind_form hp.e1 ea en1 en2 hp.e3 hp.e4 ea3 en3 hdef hf (fun p hp => ?_) (by rw [kk]; exact hnd) ?_ fun h' t' kp hD => ?_
    · have : p.1 ∈ ks.map (·.1) := by rw [← kk]; exact List.mem_map.mpr ⟨p, hp, rfl⟩
      obtain ⟨q, hq, e⟩ := List.mem_map.mp this
      rw [← e]
      exact hk q hq
    · have := congrArg List.length kk
      rw [List.length_map, List.length_map] at this
      omega
    · have new : ObjOk P w (upd H s.heap.objs.size (.dK (keyed ks))) h' s.heap.objs.size (.dK (keyed ks)) :=
        ⟨by unfold keyed; rw [List.length_map]; exact hz, beq_eq_false_iff_ne.mpr (Ne.symm (Nat.ne_of_lt (StX.env0_big e0))), _, kwR_kv rk, hD⟩
      exact hq _ _ [v0, kwFirst dv vs, V.ref s.heap.objs.size] [u0, b, Value.ref s.heap.objs.size] (env0_kept e0 kp new) (Un.laid kp (Nat.le_refl _) hn) rfl (fun e s' z => z) (.cons r0 (.cons rb (.cons rfl .nil))) rfl ⟨_, hn, rfl, rfl⟩
  · subst ex eH
    obtain ⟨t, ht, q⟩ := hbody cdv A outer s2 _ _ Q E hr' (h d hd)
    exact ⟨t, ht.nox, q⟩
end
end KwX

set_option Elab.async false
set_option linter.all false
set_option maxRecDepth 100000
set_option maxHeartbeats 1000000
namespace KwX
open PySem PySem.Spec PyProof.Rows L2

/-- what is wanted of a new instance: x, its dict, the dict of the keywords -/
def MkQ (C : Addr) (sp : Sp) (E : XK) (dv : V) (vs : List V) (ks : List (Str × V)) (H : Hp) (Q : VK) : Prop :=
  ∀ x dx d, H x = none → H dx = none → H d = none → dx ≠ x → d ≠ x → d ≠ dx → sp [.ref x, kwFirst dv vs, .ref d] (upd (upd (upd H dx (.own x)) x (.ins C dx [])) d (.dK (keyed ks))) (fun v H2 => v = .non ∧ Q (.ref x) H2) E
section
variable {X : Cx} {k : Nat} {f C : Addr} {dv : V} {sp : Sp} {E : XK} {pins : List (Addr × Obj)} {σ : L2.St} {H : Hp} {s : Shared}
theorem run_mk {Q : VK} {us : List Value} {vs : List V} {ks : List (Str × V)} {kw : List (Str × Value)} (M : Mk X.K C f) (F : KwOk X.prog X.w X.K X.mg X.base k f dv sp) (hr : Room (k + 1) X.A) (I : Inv X pins σ H s)
    (r : Vals vs us) (hl : vs.length ≤ 1) (rk : KwR ks kw) (hk : ∀ p ∈ ks, p.1 ≠ "self" ∧ p.1 ≠ "constant") (hnd : (ks.map (·.1)).Nodup) (hz : ks.length ≤ sizeLine) (h : MkQ C sp E dv vs ks H Q) :
    wpAny (model X.prog X.w) X.A (call (.ref C) us kw) (EP X pins σ Q) X.xe s := by
  have nx := I.hok.fresh (Nat.le_succ s.heap.objs.size)
  have ndx := I.hok.fresh (Nat.le_refl s.heap.objs.size)
  have ne := Nat.ne_of_lt (Nat.lt_succ_self s.heap.objs.size)
  have I2 := Inv.made (C := C) I
  refine wpAny_call (make_map (f := f) I.kIn M.makes M.init (beq_iff_eq.mp M.fn) (codeAny_mono (F _ X.stack _ _ (.ref (s.heap.objs.size + 1)) _ vs us ks kw (fun v H2 => v = .non ∧ Q (.ref (s.heap.objs.size + 1)) H2) E (hr.make C us kw) (I2.env0.make C us kw) rfl r hl rk hk hnd hz fun d hd => ?_) fun r s' hq' => ?_))
  · have n1 : d ≠ s.heap.objs.size + 1 := fun z => by rw [z, upd_same] at hd; cases hd
    have n2 : d ≠ s.heap.objs.size := fun z => by rw [z, upd_ne ne, upd_same] at hd; cases hd
    rw [upd_ne n1, upd_ne n2] at hd
    exact h (s.heap.objs.size + 1) s.heap.objs.size d nx ndx hd ne n1 n2
  · cases r with
    | error e => exact False.elim hq'
    | ok fl =>
      cases fl with
      | ret u =>
        obtain ⟨v, H', I3, rv, ev, q3⟩ := I2.after hq'
        subst ev
        exact ⟨rv, ⟨V.ref (s.heap.objs.size + 1), H', I3, rfl, q3⟩⟩
      | next => exact False.elim hq'
      | brk => exact False.elim hq'
      | cont => exact False.elim hq'
end
/-- the values of a dict whose keys are texts -/
def pairsOf (kvs : List (Key × V)) : List (Str × V) := kvs.filterMap fun p => match p.1 with
  | .inr x => some (x, p.2)
  | .inl _ => none
theorem kwOf_rel : ∀ {kvs : List (Key × V)} {vs : List (Key × Value)}, KV kvs vs → KwR (pairsOf kvs) (kwOf vs)
  | _, _, .nil => .nil
  | (k, v) :: kvs, (k', u) :: vs, .cons h r => by
    obtain ⟨h1, h2⟩ := h
    simp only at h1
    subst h1
    cases k with
    | inl i =>
      show KwR (pairsOf kvs) (kwOf vs)
      exact kwOf_rel r
    | inr x =>
      show KwR ((x, v) :: pairsOf kvs) ((x, u) :: kwOf vs)
      exact .cons ⟨rfl, h2⟩ (kwOf_rel r)
theorem kv_keys {kvs : List (Key × V)} {vs : List (Key × Value)} (h : KV kvs vs) : ∀ p ∈ vs, ∃ q ∈ kvs, q.1 = p.1 := by
  induction h with
  | nil => intro p hp; cases hp
  | cons h r ih =>
    intro p hp
    rcases List.mem_cons.mp hp with rfl | hp
    · exact ⟨_, List.mem_cons_self, h.1⟩
    · obtain ⟨q, hq, e⟩ := ih p hp
      exact ⟨q, List.mem_cons_of_mem _ hq, e⟩
theorem kv_map {kvs : List (Key × V)} {vs : List (Key × Value)} (h : KV kvs vs) : kvs.map (·.1) = vs.map (·.1) := by
  induction h with
  | nil => rfl
  | cons h r ih => rw [List.map_cons, List.map_cons, ih, h.1]
/-- C(e, **t) -/
def tMkT (C : Addr) (sp : Sp) (E : XK) (dv : V) (ta tt : TE) : TE := fun σ H Q => ta σ H fun x H1 => ∀ d0, H1 d0 = none → tt σ (upd H1 d0 (.dK [])) fun y H2 => ∃ o ks, y = .ref o ∧ o ≠ d0 ∧ H2 o = some (.dK (keyed ks)) ∧ H2 d0 = some (.dK []) ∧
  (∀ p ∈ ks, p.1 ≠ "self" ∧ p.1 ≠ "constant") ∧ (ks.map (·.1)).Nodup ∧ MkQ C sp E dv [x] ks (upd H2 d0 (.dK (keyed ks))) Q
theorem pairsOf_keyed : ∀ (ks : List (Str × V)), pairsOf (keyed ks) = ks
  | [] => rfl
  | (x, v) :: ks => by
    show (x, v) :: pairsOf (keyed ks) = _
    rw [pairsOf_keyed ks]
section
variable {X : Cx} {k : Nat} {f C : Addr} {dv : V} {sp : Sp} {E : XK} {x : Str} {p pos kpos : Pos} {e e2 : Expr} {ta tt : TE}
theorem pe_mkT (M : Mk X.K C f) (F : KwOk X.prog X.w X.K X.mg X.base k f dv sp) (hr : Room (k + 1) X.A) (hg : Gl X x) (hm : X.mg x = some (.ref C)) (he : PE X e ta) (ht : PE X e2 tt) (hdb : (x == ("__debug__" : Str)) = false := by decide)
    (hst : starEach [e] X.env = [(false, eval e X.env)] := by rfl) : PE X (.Call (.Name x p) [e] [⟨none, e2, kpos⟩] pos) (tMkT C sp E dv ta tt) := by
  refine ⟨fun pins s σ H Q I h => ?_⟩
  refine wpAny_Call_Name_kw (ld_glob I hg hm ?_ hdb)
  rw [hst]
  show wpAny _ _ (callWith pos (.ref C) [] [(false, eval e X.env)] [(none, do let v ← eval e2 X.env; standAt pos; pure v)]) _ _ _
  refine callWith_one (K := X.K) M.kp (evalArgs_one ?_)
  refine Calls.spliced_cons (thn (he.run pins s σ H _ I h) fun u s1 ⟨y, H1, I1, r1, q1⟩ => Calls.spliced_nil ?_)
  have hn := I1.hok.fresh (Nat.le_refl s1.heap.objs.size)
  have hbig : sysModules < s1.heap.objs.size := StX.env0_big I1.env0
  have I2 : Inv X pins σ (upd H1 s1.heap.objs.size (.dK [])) { s1 with heap := s1.heap.push dict0 } := I1.laid (t' := s1.toks) (fun b u e => Heap.get?_push_of_some _ e) (Nat.le_refl _) (dk_empty _ hbig)
  refine wpAny_bind (thn (ht.run pins _ σ _ _ I2 (q1 s1.heap.objs.size hn)) fun v s2 ⟨z, H2, I3, r2, o, ks, ez, ne, ho, h0, hk, hnd, q2⟩ => wpAny_bind (wpAny_standAt (wpAny_pure ?_)))
  subst ez
  obtain rfl : v = Value.ref o := r2
  obtain ⟨zl, hsm, vs, rv, hD⟩ := I3.hok o _ ho
  obtain ⟨_, hsm0, vs0, rv0, hD0⟩ := I3.hok _ _ h0
  cases rv0
  have hlen : vs.length ≤ sizeLine := by have := Paired.length rv; omega
  refine ⟨o, vs, rfl, Ne.symm ne, hsm, hD0, hD, hlen, fun p hp => ?_, fun h' a b c => ?_⟩
  · obtain ⟨q, hq, e⟩ := kv_keys rv p hp
    obtain ⟨y', hy', ey⟩ := List.mem_map.mp hq
    exact ⟨y'.1, by rw [← e, ← ey]⟩
  · have I4 : Inv X pins σ (upd H2 s1.heap.objs.size (.dK (keyed ks))) { s2 with heap := h' } := by
      refine I3.write (t' := s2.toks) (x := s1.heap.objs.size) (e := s1.heap.objs.size) (o := .dK (keyed ks)) (by rw [h0]; exact True.intro) (.inl rfl) (fun b u hb e => (c.2 b hb).trans e) ?_ ⟨zl, hsm0, vs, rv, a⟩
      obtain ⟨o', _, _, e', _⟩ := a
      exact ⟨o', e'⟩
    have rk : KwR ks (kwOf vs) := by
      have := kwOf_rel rv
      rw [pairsOf_keyed] at this
      exact this
    refine ⟨I4.kIn, ?_⟩
    exact run_mk (us := [u]) (vs := [y]) M F hr I4 (.cons r1 .nil) (Nat.le_refl 1) rk hk hnd (by unfold keyed at zl; rw [List.length_map] at zl; exact zl) q2
end
end KwX

set_option Elab.async false
set_option linter.all false
set_option maxRecDepth 100000
set_option maxHeartbeats 1000000
namespace OpX
open PySem PySem.Spec PyProof.Rows L2

theorem back {Q : Value → Shared → Prop} {v : V} {u : Value} {s : Shared} (r : RelV v u) (q : Q u s) : PySem.W.CmpBack Q u s := by
  cases v with
  | non => cases r; exact q
  | bl _ => cases r; exact q
  | int _ => obtain ⟨t, rfl⟩ := r; exact q
  | str _ => obtain ⟨t, rfl⟩ := r; exact q
  | byt _ => obtain ⟨t, rfl⟩ := r; exact q
  | flt _ => obtain ⟨t, rfl⟩ := r; exact q
  | ref _ => cases r; exact q
  | ty _ => cases r; exact q
/-- a class with an operator of its own (its def at f), its right one at g or none -/
structure OpC (K : PySem.W.Frag) (C : Addr) (op : Operator) (f : Addr) : Prop where
  first : PySem.W.selfFirst K C = true
  at_ : PySem.W.findIn K (.ref C) (PySem.dunder op.info.2) = some (some (.ref f))
  fn : PySem.W.isFn K (.ref f) = true
  rr : ∃ rc, PySem.W.findIn K (.ref C) (PySem.dunderR op.info.2) = some rc ∧ (rc = none ∨ ∃ g : Addr, rc = some (.ref g))
  i1 : ∃ fo, PySem.W.findIn K (.type "int") (PySem.dunder op.info.2) = some fo
  i2 : ∃ ro, PySem.W.findIn K (.type "int") (PySem.dunderR op.info.2) = some ro
  sub : PySem.W.subIn K (.type "int") (.ref C) = some false
/-- x op y, x an instance of C, y another one or an int -/
def rOwn (C : Addr) (sp : Sp) (E : XK) : R2 := fun x y H Q => ∃ a dx fs, x = .ref a ∧ H a = some (.ins C dx fs) ∧ ((∃ i, y = .int i) ∨ ∃ b dy gs, y = .ref b ∧ H b = some (.ins C dy gs)) ∧ sp [x, y] H Q E
section
variable {X : Cx} {CX : CXT} {k : Nat} {f g C : Addr} {fd : FuncData} {ps : List Str} {sp : Sp} {E : XK}
theorem op_own {op : Operator} (O : OpC X.K C op f) (F : FnOk X.prog X.w X.K X.mg X.base CX k f fd ps sp) (hr : Room k X.A) (hb : Binds X.K fd ps []) (hx : Passes CX X E) : OpR X (binaryOp op) (rOwn C sp E) := by
  intro pins s σ H x y u v Q I rx ry h
  obtain ⟨a, dx, fs, rfl, ha, hy, hsp⟩ := h
  obtain rfl : u = Value.ref a := rx
  obtain ⟨mA, J, _⟩ := ins_get I.hok ha
  obtain ⟨od, J, _⟩ := J.look
  obtain ⟨m, hF⟩ := I.fr
  have hcall : wpAny (model X.prog X.w) X.A (call (.ref f) [.ref a, v]) (PySem.W.CmpBack (EP X pins σ Q)) X.xe s := by
    refine thn (run_fn (Q := Q) (us := [.ref a, v]) (vs := [.ref a, y]) F hr hb .nil hx I (.cons rfl (.cons ry .nil)) (by rw [List.append_nil]; exact hsp)) fun w' s' hh => ?_
    obtain ⟨z, H', I', rz, q⟩ := hh
    exact back rz ⟨z, H', I', rz, q⟩
  rcases hy with ⟨i, rfl⟩ | ⟨b, dy, gs, rfl, hb'⟩
  · obtain ⟨t, rfl⟩ := (show ∃ t, v = Value.int i t from ry)
    obtain ⟨rc, h1, h2⟩ := O.rr
    obtain ⟨fo, h3⟩ := O.i1
    obtain ⟨ro, h4⟩ := O.i2
    exact PySem.W.ksp_binT (T := "int") hF I.ok.mod.kin J rfl O.first O.at_ O.fn h1 h2 h3 h4 O.sub hcall
  · obtain rfl : v = Value.ref b := ry
    obtain ⟨mB, J', _⟩ := ins_get I.hok hb'
    obtain ⟨od', J', _⟩ := J'.look
    exact PySem.W.binop_K hF I.ok.mod.kin J J'.type O.first O.at_ O.fn hcall
/-- -x -/
theorem un_own (hs : PySem.W.findIn X.K (.ref C) "__neg__" = some (some (.ref f))) (hf : PySem.W.isFn X.K (.ref f) = true) (F : FnOk X.prog X.w X.K X.mg X.base CX k f fd ps sp) (hr : Room k X.A) (hb : Binds X.K fd ps []) (hx : Passes CX X E) :
    UnR X (unaryOp .USub) (fun x H Q => ∃ a dx fs, x = .ref a ∧ H a = some (.ins C dx fs) ∧ sp [x] H Q E) := by
  intro pins s σ H x u Q I rx h
  obtain ⟨a, dx, fs, rfl, ha, hsp⟩ := h
  obtain rfl : u = Value.ref a := rx
  obtain ⟨mA, J, _⟩ := ins_get I.hok ha
  obtain ⟨od, J, _⟩ := J.look
  obtain ⟨m, hF⟩ := I.fr
  exact PySem.W.ksp_neg hF I.ok.mod.kin J hs hf (run_fn (us := [.ref a]) (vs := [.ref a]) F hr hb .nil hx I (.cons rfl .nil) (by rw [List.append_nil]; exact hsp))
end

/-! an int on the left -/
/-- int's own operator at an instance says NotImplemented -/
structure IntL (op : Operator) (id : String) : Prop where
  look : Slot "int" (PySem.dunder op.info.2) id
  gives : ∀ {prog : Program} {w : World} {A : Around} {E : Value → Shared → Prop} {s : Shared} {i : Int} {t : Tok} {b : Addr} {ob : Obj} {Q : Value → Shared → Prop}, s.heap.get? b = some ob → ob.data = .plain → Q .notImplemented s →
    wpAny (model prog w) A (call (.builtin id) [.int i t, .ref b]) Q E s
  fills : fillsNumberSlot (.type "int") op.info.2 = pure true
theorem asInt_inst {M : Model} {A : Around} {E : Value → Shared → Prop} {s : Shared} {b : Addr} {ob : Obj} {Q : Option Int → Shared → Prop} (h1 : s.heap.get? b = some ob) (h2 : ob.data = .plain) (hq : Q none s) : wpAny M A (asInt? (.ref b)) Q E s := by
  unfold asInt?
  refine wpAny_bind (wpAny_load h1 ?_)
  rw [h2]
  exact wpAny_pure hq
theorem intAdd : IntL .Add "int.__add__" where
  look := F.slot_int_add
  gives := fun {prog w A E s i t b ob Q} h1 h2 hq => by
    refine GQ.call_here F.slot_int_add rfl F.entry_int_add (F.args_int_add_2 _ _) ?_
    unfold Builtin.«int.__add__» Builtin.Int.intBinary
    refine wpAny_bind (wpAny_of_eq (a := (Value.int i t, [Value.ref b])) (by first | rfl | kernel_rfl) ?_)
    refine wpAny_bind (wpAny_of_eq (a := i) (by first | rfl | kernel_rfl) ?_)
    refine wpAny_bind (asInt_inst h1 h2 ?_)
    exact wpAny_bind (wpAny_rule (wpAny_pure hq))
  fills := F.fills_int_add
theorem intSub : IntL .Sub "int.__sub__" where
  look := F.slot_int_sub
  gives := fun {prog w A E s i t b ob Q} h1 h2 hq => by
    refine GQ.call_here F.slot_int_sub rfl F.entry_int_sub (F.args_int_sub_2 _ _) ?_
    unfold Builtin.«int.__sub__» Builtin.Int.intBinary
    refine wpAny_bind (wpAny_of_eq (a := (Value.int i t, [Value.ref b])) (by first | rfl | kernel_rfl) ?_)
    refine wpAny_bind (wpAny_of_eq (a := i) (by first | rfl | kernel_rfl) ?_)
    refine wpAny_bind (asInt_inst h1 h2 ?_)
    exact wpAny_bind (wpAny_rule (wpAny_pure hq))
  fills := F.fills_int_sub
theorem intMul : IntL .Mult "int.__mul__" where
  look := F.slot_int_mul
  gives := fun {prog w A E s i t b ob Q} h1 h2 hq => by
    refine GQ.call_here F.slot_int_mul rfl F.entry_int_mul (F.args_int_mul_2 _ _) ?_
    unfold Builtin.«int.__mul__» Builtin.Int.intBinary
    refine wpAny_bind (wpAny_of_eq (a := (Value.int i t, [Value.ref b])) (by first | rfl | kernel_rfl) ?_)
    refine wpAny_bind (wpAny_of_eq (a := i) (by first | rfl | kernel_rfl) ?_)
    refine wpAny_bind (asInt_inst h1 h2 ?_)
    exact wpAny_bind (wpAny_rule (wpAny_pure hq))
  fills := F.fills_int_mul
/-- a class whose right operator stands at g (and perhaps a left one) -/
structure OpR' (K : PySem.W.Frag) (C : Addr) (op : Operator) (g : Addr) : Prop where
  first : PySem.W.selfFirst K C = true
  at_ : ∃ f : Addr, PySem.W.findIn K (.ref C) (PySem.dunder op.info.2) = some (some (.ref f))
  rr : PySem.W.findIn K (.ref C) (PySem.dunderR op.info.2) = some (some (.ref g))
  fn : PySem.W.isFn K (.ref g) = true
  sub : PySem.W.subIn K (.ref C) (.type "int") = some false
def rRev (C : Addr) (sp : Sp) (E : XK) : R2 := fun x y H Q => ∃ i a dx fs, x = .int i ∧ y = .ref a ∧ H a = some (.ins C dx fs) ∧ sp [y, x] H Q E
section
variable {X : Cx} {CX : CXT} {k : Nat} {g C : Addr} {fd : FuncData} {ps : List Str} {sp : Sp} {E : XK}
open PySem.W in
theorem op_rev {op : Operator} {id : String} (L : IntL op id) (O : OpR' X.K C op g) (F : FnOk X.prog X.w X.K X.mg X.base CX k g fd ps sp) (hr : Room k X.A) (hb : Binds X.K fd ps []) (hx : Passes CX X E) : OpR X (binaryOp op) (rRev C sp E) := by
  intro pins s σ H x y v u Q I rx ry h
  obtain ⟨i, a, dx, fs, rfl, rfl, ha, hsp⟩ := h
  obtain rfl : u = Value.ref a := ry
  obtain ⟨t, rfl⟩ := (show ∃ t, v = Value.int i t from rx)
  obtain ⟨mA, J, _⟩ := ins_get I.hok ha
  have hat := J.obj
  obtain ⟨od, J, _⟩ := J.look
  obtain ⟨f, hs⟩ := O.at_
  obtain ⟨cd, rest, hcd, hm⟩ := ksp_first O.first
  have hcall : wpAny (model X.prog X.w) X.A (call (.ref g) [.ref a, .int i t]) (PySem.W.CmpBack (EP X pins σ Q)) X.xe s := by
    refine thn (run_fn (Q := Q) (us := [.ref a, .int i t]) (vs := [.ref a, .int i]) F hr hb .nil hx I (.cons rfl (.cons rx .nil)) (by rw [List.append_nil]; exact hsp)) fun w' s' hh => ?_
    obtain ⟨z, H', I', rz, q⟩ := hh
    exact back rz ⟨z, H', I', rz, q⟩
  have KX := I.kIn
  have hrr := O.rr
  have one := ksp_try KX J O.rr O.fn hcall
  have L1 : Looks (model X.prog X.w) s.heap (typeOf (.ref a)) (.ref C) := J.type
  have L3 : Looks (model X.prog X.w) s.heap (fillsNumberSlot (.ref C) op.info.2) true := fills_K KX hcd hm hs
  have L5 : Looks (model X.prog X.w) s.heap (isSubtype (.ref C) (.type "int")) false := looks_subIn KX O.sub
  have hne : (Value.type "int" == Value.ref C) = false := Bool.eq_false_iff.mpr fun q => by cases beq_iff_eq.mp q
  have hfill := L.fills
  have hslot := L.look
  have first : ∀ {Q' : Option Value → Shared → Prop}, Q' none s → wpAny (model X.prog X.w) X.A (tryMethod (.int i t) (PySem.dunder op.info.2) (.ref a)) Q' X.xe s := fun {Q'} q => by
    unfold tryMethod
    refine wpAny_bind (wpAny_callSpecial?_slot (T := "int") rfl hslot ?_)
    exact L.gives hat rfl (wpAny_pure q)
  rcases hi : op.info with ⟨sym, nm'⟩
  rw [hi] at hs hfill hslot first L3 one
  dsimp only at hs hfill hslot first L3 one
  have L2 : Looks (model X.prog X.w) s.heap (fillsNumberSlot (.type "int") nm') true := Looks.of_pure hfill
  have L7 : Looks (model X.prog X.w) s.heap (numberSlotInPython (.type "int") nm') false := Looks.of_pure rfl
  obtain ⟨hh, g', d, tt, os⟩ := s
  have L0 : Looks (model X.prog X.w) hh (typeOf (.int i t)) (.type "int") := Looks.of_pure rfl
  simp only [binaryOp, hi]
  refine wpAny_holding (wpAny_bind ?_)
  unfold binaryOp1
  refine wpAny_bind (L0.at (wpAny_bind (L1.at (wpAny_bind (L2.at ?_)))))
  simp only [hne, Bool.false_eq_true, if_false]
  ksp_lk
  refine first ?_
  ksp_lk
  refine wpAny_mono one (fun r s' hr' => ?_) fun _ _ e => e
  obtain ⟨v, rfl, hq⟩ := hr'
  ksp_lk
  exact hq
end
end OpX

set_option Elab.async false
set_option linter.all false
set_option maxRecDepth 100000
set_option maxHeartbeats 1000000
namespace Ow
open PySem PySem.Spec PyProof.Rows L2

/-! ### a def of the module, with its promise -/
structure Cal (P : Program) (w : World) (K : PySem.W.Frag) (mg : Str → Option Value) (base : Heap) (x : Str) (k : Nat) (sp : Sp) : Prop where
  ex : ∃ (f : Addr) (fd : FuncData) (ps : List Str), mg x = some (.ref f) ∧ FnOk P w K mg base CX0 k f fd ps sp ∧ Binds K fd ps [] ∧ PySem.W.keepIn K (.ref f) = true
def tCal (sp : Sp) (t : TA) : TE := fun σ H Q => t σ H fun vs H1 => sp vs H1 Q E0
section
variable {X : Cx} {k : Nat} {sp : Sp} {x m : Str} {e o : Expr} {es : List Expr} {t : TA} {te : TE} {p pos apos : Pos} {C : Addr}
theorem pe_cal (c : Cal X.prog X.w X.K X.mg X.base x k sp) (hr : Room k X.A) (ha : PA X (e :: es) t) (hg : Gl X x := by rfl) (hdb : (x == ("__debug__" : Str)) = false := by decide)
    (he : starEach (e :: es) X.env = (false, eval e X.env) :: starEach es X.env := by rfl) (hpl : (backTo pos (starEach es X.env)).any (·.1) = false := by rfl) :
    PE X (.Call (.Name x p) (e :: es) [] pos) (tCal sp t) := by
  refine ⟨fun pins s σ H Q I h => ?_⟩
  obtain ⟨f, fd, ps, hm, F, hb, hk⟩ := c.ex
  refine (pe_call F hr hg hm hk hb .nil pass0 ha hdb he hpl).run pins s σ H Q I ?_
  show t σ H fun vs H1 => sp (vs ++ []) H1 Q E0
  have e0 : (fun vs H1 => sp (vs ++ []) H1 Q E0) = fun vs H1 => sp vs H1 Q E0 := by
    funext vs H1
    rw [List.append_nil]
  rw [e0]
  exact h
/-- a method of the class at C -/
structure CalM (P : Program) (w : World) (K : PySem.W.Frag) (mg : Str → Option Value) (base : Heap) (C : Addr) (m : Str) (k : Nat) (sp : Sp) : Prop where
  cl : Cls K C
  ex : ∃ (f : Addr) (fd : FuncData) (ps : List Str), Meth K C m f ∧ FnOk P w K mg base CX0 k f fd ps sp ∧ Binds K fd ps []
def tCalM (C : Addr) (m : Str) (sp : Sp) (ta : TE) (t : TA) : TE := fun σ H Q => ta σ H fun x H1 => ∃ a dx fs, x = .ref a ∧ H1 a = some (.ins C dx fs) ∧ fs.lookup m = none ∧ t σ H1 fun vs H2 => sp (x :: vs) H2 Q E0
theorem pe_calM {pl : Sem Bool} (c : CalM X.prog X.w X.K X.mg X.base C m k sp) (hr : Room k X.A) (ho : PE X o te) (ha : PA X (e :: es) t)
    (ht : eval (.Call (.Attribute o m apos) (e :: es) [] pos) X.env = (do
      let ov ← eval o X.env
      standAt apos.atName
      let (f, first) ← holding [ov] (getMethod ov m pl)
      callWith pos f first (backTo pos (starEach (e :: es) X.env)) (backToKw pos (keywordEach [] X.env))) := by rfl)
    (hst : starEach (e :: es) X.env = (false, eval e X.env) :: starEach es X.env := by rfl) (hpl : (backTo pos (starEach es X.env)).any (·.1) = false := by rfl) :
    PE X (.Call (.Attribute o m apos) (e :: es) [] pos) (tCalM C m sp te t) := by
  refine ⟨fun pins s σ H Q I h => ?_⟩
  obtain ⟨f, fd, ps, hm, F, hb⟩ := c.ex
  refine (pe_meth ho c.cl hm F hr hb .nil pass0 ha hst hpl ht).run pins s σ H Q I ?_
  show te σ H fun x H1 => ∃ a dx fs, x = .ref a ∧ H1 a = some (.ins C dx fs) ∧ fs.lookup m = none ∧ t σ H1 fun vs H2 => sp (x :: (vs ++ [])) H2 Q E0
  have e0 : (fun x H1 => ∃ a dx fs, x = V.ref a ∧ H1 a = some (.ins C dx fs) ∧ fs.lookup m = none ∧ t σ H1 fun vs H2 => sp (x :: (vs ++ [])) H2 Q E0) =
      fun x H1 => ∃ a dx fs, x = V.ref a ∧ H1 a = some (.ins C dx fs) ∧ fs.lookup m = none ∧ t σ H1 fun vs H2 => sp (x :: vs) H2 Q E0 := by
    funext x H1
    simp only [List.append_nil]
  rw [e0]
  exact h
theorem pe_calM0 {pl : Sem Bool} (c : CalM X.prog X.w X.K X.mg X.base C m k sp) (hr : Room k X.A) (ho : PE X o te)
    (ht : eval (.Call (.Attribute o m apos) [] [] pos) X.env = (do
      let ov ← eval o X.env
      standAt apos.atName
      let (f, first) ← holding [ov] (getMethod ov m pl)
      callWith pos f first (backTo pos (starEach [] X.env)) (backToKw pos (keywordEach [] X.env))) := by rfl) :
    PE X (.Call (.Attribute o m apos) [] [] pos) (tCalM C m sp te tNil) := by
  refine ⟨fun pins s σ H Q I h => ?_⟩
  obtain ⟨f, fd, ps, hm, F, hb⟩ := c.ex
  exact (pe_meth0 ho c.cl hm F hr hb .nil pass0 ht).run pins s σ H Q I h
end

/-! ### the heap but for one object -/
def Stay (b : Addr) (H H' : Hp) : Prop := ∀ a o, a ≠ b → H a = some o → H' a = some o
theorem Stay.refl (b : Addr) (H : Hp) : Stay b H H := fun _ _ _ h => h
theorem Stay.trans {b : Addr} {H H1 H2 : Hp} (x : Stay b H H1) (y : Stay b H1 H2) : Stay b H H2 := fun a o n h => y a o n (x a o n h)
theorem Stay.of {b : Addr} {H H' : Hp} (s : Same H H') : Stay b H H' := fun a o _ h => s a o h
theorem Stay.upd {b : Addr} {H H' : Hp} {o : HO} (s : Stay b H H') : Stay b H (upd H' b o) := fun a u n h => by rw [upd_ne n]; exact s a u n h
theorem Stay.new {b p : Addr} {H H' : Hp} {o : HO} (s : Stay b H H') (h : H' p = none) : Stay b H (L2.upd H' p o) := fun a u n e => by rw [upd_ne (ne_of_none (s a u n e) h)]; exact s a u n e
/-- the bag of draws: n or fewer were mixed so far -/
def BagAt (H : Hp) (b : Addr) (n : Nat) : Prop := ∃ d m k : Int, H b = some (.lst [.int d, .int m, .int k]) ∧ 0 ≤ m ∧ m < 11529215046069000000 ∧ 0 ≤ k ∧ k ≤ n
theorem BagAt.mono {H : Hp} {b : Addr} {n n' : Nat} (h : BagAt H b n) (l : n ≤ n') : BagAt H b n' := by
  obtain ⟨d, m, k, h1, h2, h3, h4, h5⟩ := h
  exact ⟨d, m, k, h1, h2, h3, h4, by omega⟩
theorem BagAt.same {H H' : Hp} {b : Addr} {n : Nat} (h : BagAt H b n) (s : Same H H') : BagAt H' b n := by
  obtain ⟨d, m, k, h1, h2⟩ := h
  exact ⟨d, m, k, s _ _ h1, h2⟩
/-- _law_bag: a new bag -/
def spBag (K : PySem.W.Frag) : Sp := fun vs H Q _ => ∃ (a : Addr) (ns : List Int) (j : Nat), vs = [.ref a, .int (j : Int)] ∧ SqL K H a (ns.map V.int) ∧ ns.length ≤ 63 ∧ j ≤ 63 ∧ ∀ b H', H b = none → BagAt H' b 0 → Same H H' → Q (.ref b) H'
/-- _law_take -/
def spTake : Sp := fun vs H Q _ => ∃ (b : Addr) (n : Nat) (many : Int), vs = [.ref b, .int many] ∧ BagAt H b n ∧ n < 1000000000 ∧ 0 < many ∧ many.natAbs < 2 ^ 100 ∧ ∀ r H', 0 ≤ r → r < many → BagAt H' b (n + 1) → Stay b H H' → Q (.int r) H'
theorem ix0 {x y z : V} : atI [x, y, z] 0 = some x := rfl
theorem ix1 {x y z : V} : atI [x, y, z] 1 = some y := rfl
theorem ix2 {x y z : V} : atI [x, y, z] 2 = some z := rfl
end Ow

set_option Elab.async false
set_option linter.all false
set_option maxRecDepth 100000
set_option maxHeartbeats 1000000
/-! plain mathematics: symbols, sums by symbols, sorted lists of pairs -/
namespace Ow
open PySem PySem.Spec PyProof.Rows L2

abbrev Ps := List (Str × Int)
def co : Ps → Str → Int
  | [], _ => 0
  | (x, v) :: r, s => (if x = s then v else 0) + co r s
theorem co_append : ∀ (a b : Ps) (s : Str), co (a ++ b) s = co a s + co b s
  | [], b, s => by show co b s = 0 + co b s; omega
  | (x, v) :: r, b, s => by
    show (if x = s then v else 0) + co (r ++ b) s = (if x = s then v else 0) + co r s + co b s
    rw [co_append r b s]
    omega
theorem co_out : ∀ {a : Ps} {s : Str}, s ∉ a.map (·.1) → co a s = 0
  | [], _, _ => rfl
  | (x, v) :: r, s, h => by
    rw [List.map_cons, List.mem_cons, not_or] at h
    show (if x = s then v else 0) + co r s = 0
    rw [if_neg (Ne.symm h.1), co_out h.2]
    rfl
theorem co_in : ∀ {a : Ps} {q : Str × Int}, (a.map (·.1)).Nodup → q ∈ a → co a q.1 = q.2
  | (x, v) :: r, q, hn, hq => by
    rw [List.map_cons, List.nodup_cons] at hn
    show (if x = q.1 then v else 0) + co r q.1 = q.2
    rcases List.mem_cons.mp hq with rfl | hq
    · rw [if_pos rfl, co_out hn.1]
      show v + 0 = v
      omega
    · have : x ≠ q.1 := fun e => hn.1 (e ▸ List.mem_map.mpr ⟨q, hq, rfl⟩)
      rw [if_neg this, co_in hn.2 hq]
      omega
theorem co_perm {a b : Ps} (h : a.Perm b) (s : Str) : co a s = co b s := by
  induction h with
  | nil => rfl
  | cons x _ ih =>
    obtain ⟨y, v⟩ := x
    show (if y = s then v else 0) + co _ s = (if y = s then v else 0) + co _ s
    rw [ih]
  | swap x y l =>
    obtain ⟨x, v⟩ := x
    obtain ⟨y, u⟩ := y
    show (if y = s then u else 0) + ((if x = s then v else 0) + co l s) = (if x = s then v else 0) + ((if y = s then u else 0) + co l s)
    omega
  | trans _ _ i1 i2 => exact i1.trans i2
/-- m with the value of s set -/
def putS : Ps → Str → Int → Ps
  | [], s, v => [(s, v)]
  | (x, u) :: r, s, v => if x = s then (x, v) :: r else (x, u) :: putS r s v
theorem putS_keys : ∀ (m : Ps) (s : Str) (v : Int), (putS m s v).map (·.1) = m.map (·.1) ∨ (s ∉ m.map (·.1) ∧ (putS m s v).map (·.1) = m.map (·.1) ++ [s])
  | [], s, v => .inr ⟨by simp, rfl⟩
  | (x, u) :: r, s, v => by
    unfold putS
    by_cases e : x = s
    · rw [if_pos e]
      exact .inl rfl
    · rw [if_neg e]
      rcases putS_keys r s v with h | ⟨h1, h2⟩
      · exact .inl (by rw [List.map_cons, List.map_cons, h])
      · refine .inr ⟨?_, by rw [List.map_cons, List.map_cons, h2]; rfl⟩
        rw [List.map_cons, List.mem_cons, not_or]
        exact ⟨Ne.symm e, h1⟩
theorem putS_nodup {m : Ps} (s : Str) (v : Int) (h : (m.map (·.1)).Nodup) : ((putS m s v).map (·.1)).Nodup := by
  rcases putS_keys m s v with e | ⟨e1, e2⟩
  · rw [e]; exact h
  · rw [e2, List.nodup_append]
    refine ⟨h, by simp, fun a ha b hb e => ?_⟩
    rw [List.mem_singleton.mp hb] at e
    exact e1 (e ▸ ha)
theorem putS_len (m : Ps) (s : Str) (v : Int) : (putS m s v).length ≤ m.length + 1 := by
  rcases putS_keys m s v with e | ⟨_, e⟩
  · have := congrArg List.length e
    rw [List.length_map, List.length_map] at this
    omega
  · have := congrArg List.length e
    rw [List.length_map, List.length_append, List.length_map] at this
    simp only [List.length_cons, List.length_nil] at this
    omega
theorem putS_mem {m : Ps} {s : Str} {v : Int} {P : Str → Prop} (h : ∀ q ∈ m, P q.1) (hs : P s) : ∀ q ∈ putS m s v, P q.1 := fun q hq => by
  have hk : q.1 ∈ (putS m s v).map (·.1) := List.mem_map.mpr ⟨q, hq, rfl⟩
  have back : ∀ k ∈ m.map (·.1), P k := fun k hk => by
    obtain ⟨q, hq, rfl⟩ := List.mem_map.mp hk
    exact h q hq
  rcases putS_keys m s v with e | ⟨_, e⟩
  · rw [e] at hk
    exact back _ hk
  · rw [e] at hk
    rcases List.mem_append.mp hk with hk | hk
    · exact back _ hk
    · rw [List.mem_singleton.mp hk]
      exact hs
theorem co_putS : ∀ (m : Ps) (s : Str) (v : Int) (t : Str), (m.map (·.1)).Nodup → co (putS m s v) t = if t = s then v else co m t
  | [], s, v, t, _ => by
    show (if s = t then v else 0) + 0 = _
    by_cases e : t = s
    · rw [if_pos e, if_pos e.symm]; omega
    · rw [if_neg e, if_neg (Ne.symm e)]; rfl
  | (x, u) :: r, s, v, t, hn => by
    rw [List.map_cons, List.nodup_cons] at hn
    unfold putS
    by_cases e : x = s
    · rw [if_pos e]
      subst e
      show (if x = t then v else 0) + co r t = if t = x then v else (if x = t then u else 0) + co r t
      by_cases e2 : t = x
      · subst e2
        rw [if_pos rfl, if_pos rfl, co_out hn.1]; omega
      · rw [if_neg e2, if_neg (Ne.symm e2), if_neg (Ne.symm e2)]
    · rw [if_neg e]
      show (if x = t then u else 0) + co (putS r s v) t = if t = s then v else (if x = t then u else 0) + co r t
      rw [co_putS r s v t hn.2]
      by_cases e2 : t = s
      · subst e2
        rw [if_pos rfl, if_pos rfl, if_neg e]; omega
      · rw [if_neg e2, if_neg e2]
/-- as a dict of the layer -/
def kvI (m : Ps) : List (Key × V) := m.map fun p => (Sum.inr p.1, V.int p.2)
theorem kvI_len (m : Ps) : (kvI m).length = m.length := List.length_map _
theorem kvI_any : ∀ (m : Ps) (s : Str), ((kvI m).any fun kv => decide (kv.1 = Sum.inr s)) = decide (s ∈ m.map (·.1))
  | [], s => by simp [kvI]
  | (x, u) :: r, s => by
    show (decide ((Sum.inr x : Key) = Sum.inr s) || (kvI r).any fun kv => decide (kv.1 = Sum.inr s)) = _
    rw [kvI_any r s, key_rr]
    by_cases e : x = s
    · subst e; simp
    · have : ¬ s = x := Ne.symm e
      simp [e, this]
theorem kvI_upd : ∀ (m : Ps) (s : Str) (v : Int), s ∈ m.map (·.1) → (m.map (·.1)).Nodup → (kvI m).map (fun kv => if kv.1 = Sum.inr s then (kv.1, V.int v) else kv) = kvI (putS m s v)
  | (x, u) :: r, s, v, h, hn => by
    rw [List.map_cons, List.nodup_cons] at hn
    show (if (Sum.inr x : Key) = Sum.inr s then ((Sum.inr x : Key), V.int v) else (Sum.inr x, V.int u)) :: (kvI r).map _ = kvI (if x = s then (x, v) :: r else (x, u) :: putS r s v)
    by_cases e : x = s
    · subst e
      rw [if_pos rfl, if_pos rfl]
      have hx : ∀ (l : Ps), x ∉ l.map (·.1) → (kvI l).map (fun kv => if kv.1 = (Sum.inr x : Key) then (kv.1, V.int v) else kv) = kvI l := fun l => by
        induction l with
        | nil => intro _; rfl
        | cons p l ih =>
          obtain ⟨y, z⟩ := p
          intro hl
          rw [List.map_cons, List.mem_cons, not_or] at hl
          show (if (Sum.inr y : Key) = Sum.inr x then ((Sum.inr y : Key), V.int v) else ((Sum.inr y : Key), V.int z)) :: ((kvI l).map fun kv => if kv.1 = (Sum.inr x : Key) then (kv.1, V.int v) else kv) = _
          rw [if_neg (fun q => hl.1 (Sum.inr.inj q).symm), ih hl.2]
          rfl
      rw [hx r hn.1]
      rfl
    · rw [if_neg (fun q => e (Sum.inr.inj q)), if_neg e]
      rw [List.map_cons, List.mem_cons] at h
      rw [kvI_upd r s v (h.resolve_left (Ne.symm e)) hn.2]
      rfl
theorem putS_new : ∀ (m : Ps) (s : Str) (v : Int), s ∉ m.map (·.1) → putS m s v = m ++ [(s, v)]
  | [], _, _, _ => rfl
  | (x, u) :: r, s, v, h => by
    rw [List.map_cons, List.mem_cons, not_or] at h
    unfold putS
    rw [if_neg (Ne.symm h.1), putS_new r s v h.2]
    rfl
theorem kvI_put {m : Ps} (s : Str) (v : Int) (hn : (m.map (·.1)).Nodup) : putK (kvI m) (Sum.inr s) (V.int v) = kvI (putS m s v) := by
  unfold putK
  rw [kvI_any]
  by_cases h : s ∈ m.map (·.1)
  · rw [if_pos (by simpa using h), kvI_upd m s v h hn]
  · rw [if_neg (by simpa using h), putS_new m s v h]
    unfold kvI
    rw [List.map_append]
    rfl
theorem kvI_val : ∀ (m : Ps) (s : Str), (m.map (·.1)).Nodup → (valV (kvI m) (Sum.inr s)).getD (V.int 0) = V.int (co m s)
  | [], s, _ => rfl
  | (x, u) :: r, s, hn => by
    rw [List.map_cons, List.nodup_cons] at hn
    show (valV (((Sum.inr x : Key), V.int u) :: kvI r) (Sum.inr s)).getD (V.int 0) = V.int ((if x = s then u else 0) + co r s)
    by_cases e : x = s
    · subst e
      rw [valV_pos rfl, if_pos rfl, co_out hn.1]
      show V.int u = V.int (u + 0)
      rw [Int.add_zero]
    · rw [valV_neg (fun q => e (Sum.inr.inj q)), if_neg e, kvI_val r s hn.2, Int.zero_add]
theorem kvI_get : ∀ {m : Ps} {s : Str}, (m.map (·.1)).Nodup → s ∈ m.map (·.1) → valV (kvI m) (Sum.inr s) = some (V.int (co m s))
  | (x, u) :: r, s, hn, h => by
    rw [List.map_cons, List.nodup_cons] at hn
    show valV (((Sum.inr x : Key), V.int u) :: kvI r) (Sum.inr s) = some (V.int ((if x = s then u else 0) + co r s))
    by_cases e : x = s
    · subst e
      rw [valV_pos rfl, if_pos rfl, co_out hn.1, Int.add_zero]
    · rw [List.map_cons, List.mem_cons] at h
      rw [valV_neg (fun q => e (Sum.inr.inj q)), if_neg e, kvI_get hn.2 (h.resolve_left (Ne.symm e)), Int.zero_add]
theorem kvI_keys (m : Ps) : (kvI m).map (·.1) = (m.map (·.1)).map Sum.inr := by
  unfold kvI
  rw [List.map_map, List.map_map]
  rfl
/-! ### order -/
theorem lt_irr : ∀ a : List Nat, ltCps a a = false
  | [] => rfl
  | x :: r => by
    show (decide (x < x) || (x == x && ltCps r r)) = false
    rw [lt_irr r]
    simp
theorem lt_tri : ∀ a b : List Nat, ltCps a b = false → ltCps b a = false → a = b
  | [], [], _, _ => rfl
  | [], _ :: _, h, _ => by cases h
  | _ :: _, [], _, h => by cases h
  | x :: r, y :: t, h1, h2 => by
    have h1 : (decide (x < y) || (x == y && ltCps r t)) = false := h1
    have h2 : (decide (y < x) || (y == x && ltCps t r)) = false := h2
    rw [Bool.or_eq_false_iff] at h1 h2
    have e : x = y := by
      have a := of_decide_eq_false h1.1
      have b := of_decide_eq_false h2.1
      omega
    subst e
    have a := h1.2
    have b := h2.2
    simp only [beq_self_eq_true, Bool.true_and] at a b
    rw [lt_tri r t a b]
theorem lt_trans' : ∀ a b c : List Nat, ltCps a b = true → ltCps b c = true → ltCps a c = true
  | [], [], _, h, _ => by cases h
  | [], _ :: _, [], _, h => by cases h
  | [], _ :: _, _ :: _, _, _ => rfl
  | _ :: _, [], _, h, _ => by cases h
  | _ :: _, _ :: _, [], _, h => by cases h
  | x :: r, y :: t, z :: u, h1, h2 => by
    have h1 : (decide (x < y) || (x == y && ltCps r t)) = true := h1
    have h2 : (decide (y < z) || (y == z && ltCps t u)) = true := h2
    show (decide (x < z) || (x == z && ltCps r u)) = true
    rw [Bool.or_eq_true] at h1 h2 ⊢
    rw [Bool.and_eq_true] at h1 h2 ⊢
    rcases h1 with h1 | ⟨h1, g1⟩
    · have h1 := of_decide_eq_true h1
      rcases h2 with h2 | ⟨h2, _⟩
      · have h2 := of_decide_eq_true h2
        exact .inl (decide_eq_true (by omega))
      · have h2 := eq_of_beq h2
        exact .inl (decide_eq_true (by omega))
    · have h1 := eq_of_beq h1
      rcases h2 with h2 | ⟨h2, g2⟩
      · have h2 := of_decide_eq_true h2
        exact .inl (decide_eq_true (by omega))
      · have h2 := eq_of_beq h2
        exact .inr ⟨by rw [h1, h2]; simp, lt_trans' r t u g1 g2⟩
/-- a ≤ b -/
def LeS (a b : Str) : Prop := ltCps b.cps.toList a.cps.toList = false
theorem leS_anti {a b : Str} (h1 : LeS a b) (h2 : LeS b a) : a = b := by
  have := lt_tri _ _ h2 h1
  obtain ⟨a⟩ := a
  obtain ⟨b⟩ := b
  have e : a = b := by
    have h : a.toList = b.toList := this
    exact Array.ext' h
  rw [e]
theorem leS_trans {a b c : Str} (h1 : LeS a b) (h2 : LeS b c) : LeS a c := by
  unfold LeS at *
  cases h : ltCps c.cps.toList a.cps.toList with
  | false => rfl
  | true =>
    exfalso
    cases hab : ltCps a.cps.toList b.cps.toList with
    | true =>
      have := lt_trans' _ _ _ h hab
      rw [this] at h2
      cases h2
    | false =>
      have e := lt_tri _ _ hab h1
      rw [e] at h
      rw [h] at h2
      cases h2
theorem rising_pw : ∀ (p : Str) (l : List Str), risingS p l = true → (p :: l).Pairwise LeS
  | p, [], _ => List.pairwise_singleton _ _
  | p, x :: r, h => by
    have h : (!ltCps x.cps.toList p.cps.toList && risingS x r) = true := h
    rw [Bool.and_eq_true, Bool.not_eq_true'] at h
    have ih := rising_pw x r h.2
    refine List.pairwise_cons.mpr ⟨fun y hy => ?_, ih⟩
    rcases List.mem_cons.mp hy with rfl | hy
    · exact h.1
    · exact leS_trans h.1 ((List.pairwise_cons.mp ih).1 y hy)
theorem sorted_pw {l : List Str} (h : sortedS l = true) : l.Pairwise LeS := by
  cases l with
  | nil => exact List.Pairwise.nil
  | cons x r => exact rising_pw x r h
theorem sorted_one : ∀ {l l' : List Str}, l.Pairwise LeS → l'.Pairwise LeS → l.Perm l' → l = l'
  | [], l', _, _, h => (List.nil_perm.mp h).symm
  | x :: r, [], _, _, h => absurd h.symm (fun q => by have := List.nil_perm.mp q; cases this)
  | x :: r, y :: t, h1, h2, h => by
    have e : x = y := by
      have hx : x ∈ y :: t := h.mem_iff.mp List.mem_cons_self
      have hy : y ∈ x :: r := h.mem_iff.mpr List.mem_cons_self
      rcases List.mem_cons.mp hx with e | hx
      · exact e
      · rcases List.mem_cons.mp hy with e | hy
        · exact e.symm
        · exact leS_anti ((List.pairwise_cons.mp h1).1 y hy) ((List.pairwise_cons.mp h2).1 x hx)
    subst e
    rw [sorted_one (List.pairwise_cons.mp h1).2 (List.pairwise_cons.mp h2).2 (List.perm_cons x |>.mp h)]
/-- the list of a form's or a dict's parts: by symbols, ascending, without noughts -/
structure Can (L : Ps) (g : Str → Int) : Prop where
  srt : (L.map (·.1)).Pairwise LeS
  nd : (L.map (·.1)).Nodup
  nz : ∀ q ∈ L, q.2 ≠ 0
  val : ∀ s, co L s = g s
theorem can_mem {L : Ps} {g : Str → Int} (c : Can L g) (s : Str) : s ∈ L.map (·.1) ↔ g s ≠ 0 := by
  constructor
  · intro h
    obtain ⟨q, hq, rfl⟩ := List.mem_map.mp h
    rw [← c.val, co_in c.nd hq]
    exact c.nz q hq
  · intro h
    refine Classical.byContradiction fun n => h ?_
    rw [← c.val, co_out n]
theorem perm_of_mem : ∀ {l l' : List Str}, l.Nodup → l'.Nodup → (∀ s, s ∈ l ↔ s ∈ l') → l.Perm l' := fun {l l'} n n' h => (List.perm_ext_iff_of_nodup n n').mpr h
theorem ps_of_keys : ∀ {L L' : Ps}, L.map (·.1) = L'.map (·.1) → (L.map (·.1)).Nodup → (∀ s, co L s = co L' s) → L = L'
  | [], [], _, _, _ => rfl
  | [], _ :: _, h, _, _ => by cases h
  | _ :: _, [], h, _, _ => by cases h
  | (x, u) :: r, (y, v) :: t, h, hn, hv => by
    rw [List.map_cons, List.map_cons] at h
    injection h with h1 h2
    simp only at h1
    subst h1
    rw [List.map_cons, List.nodup_cons] at hn
    have hn' : x ∉ t.map (·.1) := by rw [← h2]; exact hn.1
    have e : u = v := by
      have := hv x
      have a : co ((x, u) :: r) x = u := by
        show (if x = x then u else 0) + co r x = u
        rw [if_pos rfl, co_out hn.1]; omega
      have b : co ((x, v) :: t) x = v := by
        show (if x = x then v else 0) + co t x = v
        rw [if_pos rfl, co_out hn']; omega
      rw [a, b] at this
      exact this
    subst e
    rw [ps_of_keys h2 hn.2 fun s => ?_]
    have h3 : (if x = s then u else 0) + co r s = (if x = s then u else 0) + co t s := hv s
    omega
theorem can_one {L L' : Ps} {g g' : Str → Int} (c : Can L g) (c' : Can L' g') (e : ∀ s, g s = g' s) : L = L' := by
  have hk : L.map (·.1) = L'.map (·.1) := sorted_one c.srt c'.srt (perm_of_mem c.nd c'.nd fun s => by rw [can_mem c, can_mem c', e s])
  exact ps_of_keys hk c.nd fun s => by rw [c.val, c'.val, e s]
end Ow

set_option Elab.async false
set_option linter.all false
set_option maxRecDepth 100000
set_option maxHeartbeats 1000000
namespace Ow
open PySem PySem.Spec PyProof.Rows L2
/-! ### symbols -/
def isLc (l : List Nat) : Bool := decide (1 ≤ l.length) && (decide (l.length ≤ 3) && l.all fun c => decide (97 ≤ c) && decide (c ≤ 122))
def isRc : List Nat → Bool
  | 114 :: ds => decide (1 ≤ ds.length) && (decide (ds.length ≤ 60) && ((ds.all fun c => decide (48 ≤ c) && decide (c ≤ 57)) && (ds == [48] || ds.head? != some 48)))
  | _ => false
def isSym (x : Str) : Bool := isLc x.cps.toList || isRc x.cps.toList
theorem sym_r : ∀ n : Fin 1000, isSym (("r" : Str) ++ ((toString ((n.val : Nat) : Int) : String) : Str)) = true := by decide +kernel
theorem sym_small {x : Str} (h : isSym x = true) : x.cps.toList.length ≤ 61 := by
  unfold isSym at h
  rw [Bool.or_eq_true] at h
  rcases h with h | h
  · unfold isLc at h
    simp only [Bool.and_eq_true, decide_eq_true_eq] at h
    omega
  · unfold isRc at h
    split at h
    · rename_i ds e
      simp only [Bool.and_eq_true, decide_eq_true_eq] at h
      rw [e, List.length_cons]
      omega
    · cases h
theorem sym_len {x : Str} (h : isSym x = true) : x.length ≤ sizeLine := by
  have := sym_small h
  rw [Array.length_toList] at this
  exact Nat.le_trans (show x.length ≤ 61 from this) (by decide)
/-- no name of a parameter is a symbol -/
theorem sym_ne {x : Str} (h : isSym x = true) : x ≠ "self" ∧ x ≠ "constant" := by
  constructor
  · rintro rfl
    exact absurd h (by decide +kernel)
  · rintro rfl
    exact absurd h (by decide +kernel)
/-! ### lists of pairs -/
def PairAt (H : Hp) (x : V) (q : Str × Int) : Prop := ∃ t, x = .ref t ∧ H t = some (.tup [.str q.1, .int q.2])
def PairsAt (H : Hp) (l : Addr) (ps : Ps) : Prop := ∃ xs, H l = some (.lst xs) ∧ Paired (PairAt H) xs ps
structure OkPs (ps : Ps) : Prop where
  sym : ∀ q ∈ ps, isSym q.1 = true
  big : ∀ q ∈ ps, q.2.natAbs ≤ 10 ^ 25
theorem PairAt.same {H H' : Hp} {x : V} {q : Str × Int} (h : PairAt H x q) (s : Same H H') : PairAt H' x q := by
  obtain ⟨t, e, h⟩ := h
  exact ⟨t, e, s _ _ h⟩
theorem paired_map {α β : Type} {F G : α → β → Prop} (f : ∀ a b, F a b → G a b) : ∀ {l : List α} {m : List β}, Paired F l m → Paired G l m
  | _, _, .nil => .nil
  | _, _, .cons h r => .cons (f _ _ h) (paired_map f r)
theorem PairsAt.same {H H' : Hp} {l : Addr} {ps : Ps} (h : PairsAt H l ps) (s : Same H H') : PairsAt H' l ps := by
  obtain ⟨xs, e, p⟩ := h
  exact ⟨xs, s _ _ e, paired_map (fun _ _ q => q.same s) p⟩
theorem PairAt.stay {H H' : Hp} {b : Addr} {x : V} {q : Str × Int} (h : PairAt H x q) (s : Stay b H H') (hb : ∃ xs, H b = some (.lst xs)) : PairAt H' x q := by
  obtain ⟨t, e, h⟩ := h
  obtain ⟨ys, hb⟩ := hb
  exact ⟨t, e, s _ _ (ne_of h hb (by intro z; cases z)) h⟩
theorem BagAt.lst {H : Hp} {b : Addr} {n : Nat} (h : BagAt H b n) : ∃ xs, H b = some (.lst xs) := by
  obtain ⟨d, m, k, h, _⟩ := h
  exact ⟨_, h⟩
theorem PairsAt.stay {H H' : Hp} {b l : Addr} {ps : Ps} (h : PairsAt H l ps) (s : Stay b H H') (hb : ∃ xs, H b = some (.lst xs)) (ne : l ≠ b) : PairsAt H' l ps := by
  obtain ⟨xs, e, p⟩ := h
  exact ⟨xs, s _ _ ne e, paired_map (fun _ _ q => q.stay s hb) p⟩
/-! ### the promises of the draws -/
def spNumber : Sp := fun vs H Q _ => ∃ (b : Addr) (n : Nat), vs = [.ref b] ∧ BagAt H b n ∧ n < 900000000 ∧ ∀ v H', v.natAbs ≤ 10 ^ 25 → BagAt H' b (n + 2) → Stay b H H' → Q (.int v) H'
def spSymbol : Sp := fun vs H Q _ => ∃ (b : Addr) (n : Nat), vs = [.ref b] ∧ BagAt H b n ∧ n < 900000000 ∧ ∀ x H', isSym x = true → BagAt H' b (n + 10) → Stay b H H' → Q (.str x) H'
def spPairs : Sp := fun vs H Q _ => ∃ (b : Addr) (n : Nat) (many : Nat), vs = [.ref b, .int (many : Int)] ∧ BagAt H b n ∧ n < 800000000 ∧ 0 < many ∧ many ≤ 64 ∧
  ∀ l ps H', l ≠ b → H l = none → PairsAt H' l ps → OkPs ps → ps.length < many → BagAt H' b (n + 2000) → Stay b H H' → Q (.ref l) H'
end Ow

set_option Elab.async false
set_option linter.all false
set_option maxRecDepth 100000
set_option maxHeartbeats 1000000
namespace Ow
open PySem PySem.Spec PyProof.Rows L2
/-! ### data of pairs -/
theorem sym_cps {x : Str} (h : isSym x = true) : ∀ c ∈ x.cps.toList, c < 1114112 := by
  unfold isSym at h
  rw [Bool.or_eq_true] at h
  rcases h with h | h
  · unfold isLc at h
    simp only [Bool.and_eq_true, decide_eq_true_eq, List.all_eq_true] at h
    intro c hc
    have := h.2.2 c hc
    omega
  · unfold isRc at h
    split at h
    · rename_i ds e
      simp only [Bool.and_eq_true, decide_eq_true_eq, List.all_eq_true] at h
      intro c hc
      rw [e] at hc
      rcases List.mem_cons.mp hc with rfl | hc
      · decide
      · have := h.2.2.1 c hc
        omega
    · cases h
theorem sym_ok {x : Str} (h : isSym x = true) : PyData.strOk x = true := by
  unfold PyData.strOk
  rw [← Array.all_toList, List.all_eq_true]
  exact fun c hc => decide_eq_true (sym_cps h c hc)
def datP (ps : Ps) : List PyData := ps.map fun q => .tuple [.str q.1, .int q.2]
theorem dpAll_ps {K : PySem.W.Frag} {H : Hp} : ∀ {xs : List V} {ps : Ps}, Paired (PairAt H) xs ps → DpAll K H xs (datP ps)
  | _, _, .nil => .nil
  | _, _, .cons h r => by
    obtain ⟨t, rfl, h⟩ := h
    exact .cons (.tup (SqT.of h) (.cons (.str _) (.cons (.int _) .nil))) (dpAll_ps r)
theorem can_ps : ∀ {ps : Ps}, (∀ q ∈ ps, isSym q.1 = true) → PyData.canLayAll0 (datP ps) = true
  | [], _ => rfl
  | q :: ps, h => by
    show ((PyData.strOk q.1 && (true && true)) && PyData.canLayAll0 (datP ps)) = true
    rw [sym_ok (h q List.mem_cons_self), can_ps fun p hp => h p (List.mem_cons_of_mem _ hp)]
    rfl
theorem depth_ps : ∀ (ps : Ps), PyData.depthAll (datP ps) ≤ 1
  | [] => Nat.zero_le _
  | q :: ps => by
    show max (PyData.depth (.tuple [.str q.1, .int q.2])) (PyData.depthAll (datP ps)) ≤ 1
    have h1 : PyData.depth (.tuple [.str q.1, .int q.2]) = 1 := by simp [PyData.depth, PyData.depthAll]
    have h2 := depth_ps ps
    omega
theorem shapedL {ps : Ps} (h : ∀ q ∈ ps, isSym q.1 = true) : SeqAt.shaped (.list (datP ps)) = true := by
  unfold SeqAt.shaped
  rw [Bool.and_eq_true]
  refine ⟨can_ps h, decide_eq_true ?_⟩
  have := depth_ps ps
  show PyData.depthAll (datP ps) + 1 ≤ 64
  omega
def datW (c : Int) (ps : Ps) : PyData := .tuple [.int c, .tuple (datP ps)]
theorem shapedW (c : Int) {ps : Ps} (h : ∀ q ∈ ps, isSym q.1 = true) : SeqAt.shaped (datW c ps) = true := by
  unfold SeqAt.shaped
  rw [Bool.and_eq_true]
  refine ⟨?_, decide_eq_true ?_⟩
  · show (true && (PyData.canLayAll0 (datP ps) && true)) = true
    rw [can_ps h]
    rfl
  · have h2 := depth_ps ps
    have h1 : PyData.depth (datW c ps) = PyData.depthAll (datP ps) + 1 + 1 := by simp [datW, PyData.depth, PyData.depthAll]
    omega
theorem eqvW (c : Int) {ps : Ps} (h : ∀ q ∈ ps, isSym q.1 = true) : PyData.eqv (datW c ps) (datW c ps) = true := SeqAt.eqv_refl _ (SeqAt.canLay_of_shaped (shapedW c h))
theorem eqv_nil (ps : Ps) : PyData.eqv (.list (datP ps)) (.list []) = ps.isEmpty := by
  cases ps <;> rfl
/-- a tuple (constant, pairs) in the heap -/
def WrAt (H : Hp) (x : V) (c : Int) (ps : Ps) : Prop := ∃ a b xs, x = .ref a ∧ H a = some (.tup [.int c, .ref b]) ∧ H b = some (.tup xs) ∧ Paired (PairAt H) xs ps
theorem WrAt.dp {K : PySem.W.Frag} {H : Hp} {x : V} {c : Int} {ps : Ps} (h : WrAt H x c ps) : Dp K H x (datW c ps) := by
  obtain ⟨a, b, xs, rfl, ha, hb, hp⟩ := h
  exact .tup (SqT.of ha) (.cons (.int _) (.cons (.tup (SqT.of hb) (dpAll_ps hp)) .nil))
theorem WrAt.same {H H' : Hp} {x : V} {c : Int} {ps : Ps} (h : WrAt H x c ps) (s : Same H H') : WrAt H' x c ps := by
  obtain ⟨a, b, xs, rfl, ha, hb, hp⟩ := h
  exact ⟨a, b, xs, rfl, s _ _ ha, s _ _ hb, paired_map (fun _ _ q => q.same s) hp⟩
theorem paired_len {α β : Type} {F : α → β → Prop} : ∀ {l : List α} {m : List β}, Paired F l m → l.length = m.length
  | _, _, .nil => rfl
  | _, _, .cons _ r => by rw [List.length_cons, List.length_cons, paired_len r]
theorem paired_at {α β : Type} {F : α → β → Prop} : ∀ {l : List α} {m : List β} {i : Nat} {x : α}, Paired F l m → l[i]? = some x → ∃ y, m[i]? = some y ∧ F x y
  | _, _, 0, _, .cons h r, e => by
    cases e
    exact ⟨_, rfl, h⟩
  | _, _, i + 1, _, .cons h r, e => by
    rw [List.getElem?_cons_succ] at e
    obtain ⟨y, e', h'⟩ := paired_at r e
    exact ⟨y, by rw [List.getElem?_cons_succ]; exact e', h'⟩
theorem paired_snoc {α β : Type} {F : α → β → Prop} {x : α} {y : β} (h : F x y) : ∀ {l : List α} {m : List β}, Paired F l m → Paired F (l ++ [x]) (m ++ [y])
  | _, _, .nil => .cons h .nil
  | _, _, .cons g r => .cons g (paired_snoc h r)
/-- one pair more -/
theorem pairs_push {H : Hp} {l t : Addr} {ps : Ps} {x : Str} {v : Int} (h : PairsAt H l ps) (ht : H t = none) :
    ∃ xs, (upd H t (.tup [.str x, .int v])) l = some (.lst xs) ∧ xs.length = ps.length ∧ PairsAt (upd (upd H t (.tup [.str x, .int v])) l (.lst (xs ++ [.ref t]))) l (ps ++ [(x, v)]) := by
  obtain ⟨xs, hx, hp⟩ := h
  have tl : t ≠ l := fun z => by rw [z, hx] at ht; cases ht
  refine ⟨xs, (upd_ne tl.symm).trans hx, paired_len hp, xs ++ [.ref t], upd_same, paired_snoc ⟨t, rfl, (upd_ne tl).trans upd_same⟩ (paired_map (fun y q hq => ?_) hp)⟩
  obtain ⟨u, rfl, hu⟩ := hq
  exact ⟨u, rfl, (upd_ne (ne_of hu hx (by intro z; cases z))).trans ((upd_ne (ne_of_none hu ht)).trans hu)⟩
theorem BagAt.upd {H : Hp} {b t : Addr} {n : Nat} {o : HO} (h : BagAt H b n) (ne : b ≠ t) : BagAt (L2.upd H t o) b n := by
  obtain ⟨d, m, k, h1, h2⟩ := h
  exact ⟨d, m, k, (upd_ne ne).trans h1, h2⟩
end Ow

set_option Elab.async false
set_option linter.all false
set_option maxRecDepth 100000
set_option maxHeartbeats 1000000
namespace Ow
open PySem PySem.Spec PyProof.Rows L2
structure DictAt (H : Hp) (d : Addr) (m : Ps) : Prop where
  at_ : H d = some (.dK (kvI m))
  nd : (m.map (·.1)).Nodup
  sym : ∀ q ∈ m, isSym q.1 = true
theorem DictAt.same {H H' : Hp} {d : Addr} {m : Ps} (h : DictAt H d m) (s : Same H H') : DictAt H' d m := ⟨s _ _ h.at_, h.nd, h.sym⟩
theorem DictAt.new {H : Hp} {d : Addr} : DictAt (upd H d (.dK [])) d [] := ⟨upd_same, List.nodup_nil, fun q h => (by cases h)⟩
theorem DictAt.put {H : Hp} {d : Addr} {m : Ps} (h : DictAt H d m) (x : Str) (v : Int) (hx : isSym x = true) : DictAt (upd H d (.dK (putK (kvI m) (Sum.inr x) (V.int v)))) d (putS m x v) :=
  ⟨by rw [upd_same, kvI_put x v h.nd], putS_nodup x v h.nd, putS_mem (P := fun s => isSym s = true) h.sym hx⟩
theorem same_new {H H' : Hp} {d : Addr} {o : HO} (s : Same H H') (h : H' d = none) : Same H (upd H' d o) := fun a u e => (upd_ne (ne_of_none (s a u e) h)).trans (s a u e)
theorem same_over {H H' : Hp} {d : Addr} {o : HO} (s : Same H H') (h : H d = none) : Same H (upd H' d o) := fun a u e => (upd_ne (ne_of_none e h)).trans (s a u e)
theorem same_trans {H H' H2 : Hp} (s : Same H H') (t : Same H' H2) : Same H H2 := fun a u e => t a u (s a u e)
def spSums : Sp := fun vs H Q _ => ∃ (l : Addr) (ps : Ps), vs = [.ref l] ∧ PairsAt H l ps ∧ OkPs ps ∧ ps.length < 32 ∧
  ∀ d m H', H d = none → DictAt H' d m → m.length ≤ ps.length → (∀ s, co m s = co ps s) → Same H H' → Q (.ref d) H'
def spWritten : Sp := fun vs H Q _ => ∃ (c : Int) (d : Addr) (m : Ps), vs = [.int c, .ref d] ∧ DictAt H d m ∧ m.length < 64 ∧
  ∀ x L H', WrAt H' x c L → Can L (co m) → (∀ q ∈ L, isSym q.1 = true) → Same H H' → Q x H'
def spBoth : Sp := fun vs H Q _ => ∃ (a b : Addr) (m1 m2 : Ps) (k : Int), vs = [.ref a, .ref b, .int k] ∧ DictAt H a m1 ∧ DictAt H b m2 ∧ m1.length < 30 ∧ m2.length < 30 ∧ (k = 1 ∨ k = -1) ∧
  ∀ d m H', H d = none → DictAt H' d m → m.length ≤ m1.length + m2.length → (∀ s, co m s = co m1 s + k * co m2 s) → Same H H' → Q (.ref d) H'
theorem co_snoc (a : Ps) (x : Str) (v : Int) (s : Str) : co (a ++ [(x, v)]) s = co a s + if s = x then v else 0 := by
  rw [co_append]
  show co a s + co [(x, v)] s = _
  congr 1
  show (if x = s then v else 0) + 0 = _
  by_cases e : s = x
  · rw [if_pos e, if_pos e.symm]
    omega
  · rw [if_neg e, if_neg fun z => e z.symm]
    omega
theorem take_snoc {ps : Ps} {i : Nat} {q : Str × Int} (h : ps[i]? = some q) : ps.take (i + 1) = ps.take i ++ [q] := by
  rw [List.take_add_one, h]
  rfl
theorem mergeK_kvI : ∀ (b a : Ps), ((a ++ b).map (·.1)).Nodup → mergeK (kvI a) (kvI b) = kvI (a ++ b)
  | [], a, _ => by rw [List.append_nil]; rfl
  | (x, v) :: b, a, h => by
    have hx : x ∉ a.map (·.1) := fun hx => by
      rw [List.map_append, List.nodup_append] at h
      exact h.2.2 x hx x (by simp) rfl
    have e : (a ++ (x, v) :: b) = (a ++ [(x, v)]) ++ b := by simp
    have ha : (a.map (·.1)).Nodup := by
      rw [List.map_append, List.nodup_append] at h
      exact h.1
    rw [e] at h ⊢
    rw [← mergeK_kvI b (a ++ [(x, v)]) h, ← putS_new a x v hx, ← kvI_put x v ha]
    rfl
theorem same_unlock {H H' : Hp} {b : Addr} {o : Obj} {u : HO} (hb : H b = some u) (s : Same (upd H b (.frz o u)) H') : Same H (upd H' b u) := fun a x e => by
  by_cases z : a = b
  · subst z
    rw [upd_same, ← hb, e]
  · rw [upd_ne z]
    exact s a x ((upd_ne z).trans e)
theorem dget_r {H : Hp} {d : Addr} {m : Ps} {y : Str} (r : Rd H d (.dK (kvI m))) (nd : (m.map (·.1)).Nodup) (hy : y ∈ m.map (·.1)) : DGet H d (.str y) (some (.int (co m y))) :=
  .inl ⟨kvI m, Sum.inr y, r, rfl, (kvI_get nd hy).symm⟩
/-! ### the pairs of symbols in order, without noughts -/
def canL (ys : List Str) (g : Str → Int) : Ps := (ys.map fun s => (s, g s)).filter fun q => decide (q.2 ≠ 0)
theorem canL_keys : ∀ (ys : List Str) (g : Str → Int), (canL ys g).map (·.1) = ys.filter fun s => decide (g s ≠ 0)
  | [], _ => rfl
  | y :: ys, g => by
    have ih := canL_keys ys g
    unfold canL at ih ⊢
    rw [List.map_cons, List.filter_cons, List.filter_cons]
    by_cases e : decide (g y ≠ 0) = true
    · rw [if_pos e, if_pos e, List.map_cons, ih]
    · rw [if_neg e, if_neg e, ih]
theorem canL_mem {ys : List Str} {g : Str → Int} {q : Str × Int} (h : q ∈ canL ys g) : q.1 ∈ ys ∧ q.2 = g q.1 ∧ q.2 ≠ 0 := by
  unfold canL at h
  obtain ⟨h1, h2⟩ := List.mem_filter.mp h
  obtain ⟨s, hs, rfl⟩ := List.mem_map.mp h1
  exact ⟨hs, rfl, of_decide_eq_true h2⟩
theorem canL_can {ys : List Str} {g : Str → Int} (h1 : ys.Pairwise LeS) (h2 : ys.Nodup) (h3 : ∀ s, g s ≠ 0 → s ∈ ys) : Can (canL ys g) g := by
  have nd : ((canL ys g).map (·.1)).Nodup := by
    rw [canL_keys]
    exact h2.sublist List.filter_sublist
  refine ⟨?_, nd, fun q hq => (canL_mem hq).2.2, fun s => ?_⟩
  · rw [canL_keys]
    exact h1.sublist List.filter_sublist
  · by_cases e : g s = 0
    · rw [e]
      refine co_out fun hs => ?_
      obtain ⟨q, hq, rfl⟩ := List.mem_map.mp hs
      have := canL_mem hq
      exact this.2.2 (this.2.1.trans e)
    · have hs : (s, g s) ∈ canL ys g := by
        unfold canL
        exact List.mem_filter.mpr ⟨List.mem_map.mpr ⟨s, h3 s e, rfl⟩, decide_eq_true e⟩
      exact co_in nd hs
theorem canL_take {ys : List Str} {g : Str → Int} {i : Nat} {y : Str} (h : ys[i]? = some y) : canL (ys.take (i + 1)) g = canL (ys.take i) g ++ if g y = 0 then [] else [(y, g y)] := by
  unfold canL
  rw [List.take_add_one, h, List.map_append, List.filter_append]
  congr 1
  by_cases e : g y = 0
  · rw [if_pos e]
    simp [e]
  · rw [if_neg e]
    simp [e]
theorem canL_len (ys : List Str) (g : Str → Int) : (canL ys g).length ≤ ys.length := by
  unfold canL
  exact Nat.le_trans (List.length_filter_le _ _) (by rw [List.length_map]; exact Nat.le_refl _)
theorem push_lc {H : Hp} {l t : Addr} {acc : List V} {L : Ps} {x : Str} {v : Int} (hx : H l = some (.lst acc)) (hp : Paired (PairAt H) acc L) (ht : H t = none) :
    upd H t (.tup [.str x, .int v]) l = some (.lst acc) ∧ Paired (PairAt (upd (upd H t (.tup [.str x, .int v])) l (.lst (acc ++ [.ref t])))) (acc ++ [.ref t]) (L ++ [(x, v)]) := by
  have tl : t ≠ l := fun z => by rw [z, hx] at ht; cases ht
  refine ⟨(upd_ne tl.symm).trans hx, paired_snoc ⟨t, rfl, (upd_ne tl).trans upd_same⟩ (paired_map (fun y q hq => ?_) hp)⟩
  obtain ⟨u, rfl, hu⟩ := hq
  exact ⟨u, rfl, (upd_ne (ne_of hu hx (by intro z; cases z))).trans ((upd_ne (ne_of_none hu ht)).trans hu)⟩
theorem kvI_at {m : Ps} {i : Nat} {k : Key} {v : V} (h : (kvI m)[i]? = some (k, v)) : ∃ q, m[i]? = some q ∧ k = Sum.inr q.1 ∧ v = .int q.2 := by
  unfold kvI at h
  rw [List.getElem?_map] at h
  cases e : m[i]? with
  | none => rw [e] at h; cases h
  | some q => rw [e] at h; cases h; exact ⟨q, rfl, rfl, rfl⟩
theorem pair_addr {H : Hp} : ∀ {acc : List V} {L : Ps}, Paired (PairAt H) acc L → ∃ ps : List Addr, acc = ps.map V.ref ∧ Paired (fun p (kv : Key × V) => H p = some (.tup [kV kv.1, kv.2])) ps (kvI L)
  | _, _, .nil => ⟨[], rfl, .nil⟩
  | _, _, .cons h r => by
    obtain ⟨t, rfl, ht⟩ := h
    obtain ⟨ps, rfl, hp⟩ := pair_addr r
    exact ⟨t :: ps, rfl, .cons ht hp⟩
theorem str_at {ys : List Str} {i : Nat} {x : V} (h : (ys.map V.str)[i]? = some x) : ∃ y, ys[i]? = some y ∧ x = .str y := by
  rw [List.getElem?_map] at h
  cases e : ys[i]? with
  | none => rw [e] at h; cases h
  | some y => rw [e] at h; exact ⟨y, rfl, (Option.some.inj h).symm⟩
theorem wr_new {H : Hp} {acc : List V} {L : Ps} {l x : Addr} {c : Int} (hp : Paired (PairAt H) acc L) (hl : H l = none) (hx : upd H l (.tup acc) x = none) : WrAt (upd (upd H l (.tup acc)) x (.tup [.int c, .ref l])) (.ref x) c L := by
  have ne : l ≠ x := fun z => by rw [z, upd_same] at hx; cases hx
  exact ⟨x, l, acc, rfl, upd_same, (upd_ne ne).trans upd_same, paired_map (fun _ _ q => q.same (same_new (same_new (fun _ _ e => e) hl) hx)) hp⟩
end Ow

set_option Elab.async false
set_option linter.all false
set_option maxRecDepth 100000
set_option maxHeartbeats 1000000
namespace Ow
open PySem PySem.Spec PyProof.Rows L2
section
variable {X : Cx} {x z : Str} {n : Int} {pos : Pos}
theorem pe_globS (hg : Gl X x) (hm : ∃ t, X.mg x = some (.str z t)) (hd : (x == ("__debug__" : Str)) = false := by decide) : PE X (.Name x pos) (tC (.str z)) := by
  obtain ⟨t, hm⟩ := hm
  exact pe_glob hg hm ⟨t, rfl⟩ hd
theorem pe_globI (hg : Gl X x) (hm : ∃ t, X.mg x = some (.int n t)) (hd : (x == ("__debug__" : Str)) = false := by decide) : PE X (.Name x pos) (tC (.int n)) := by
  obtain ⟨t, hm⟩ := hm
  exact pe_glob hg hm ⟨t, rfl⟩ hd
end
theorem starts1 (x : Str) (c : Nat) : Txt.startswith x ⟨#[c]⟩ = (x.cps.toList.head? == some c) := by
  obtain ⟨⟨l⟩⟩ := x
  cases l with
  | nil => rfl
  | cons a l =>
    unfold Txt.startswith Builtin.Str.subAt
    have h1 : (⟨⟨a :: l⟩⟩ : Str).length = l.length + 1 := rfl
    have h2 : (⟨#[c]⟩ : Str).length = 1 := rfl
    rw [h1, h2]
    simp
theorem tail1 (x : Str) : cutS x (some 1) none = ⟨(x.cps.toList.drop 1).toArray⟩ := by
  obtain ⟨⟨l⟩⟩ := x
  unfold cutS
  have h1 : (⟨⟨l⟩⟩ : Str).length = l.length := rfl
  rw [h1, HT.sIx_none, show (1 : Int) = ((1 : Nat) : Int) from rfl, HT.sIx_nat]
  cases l with
  | nil => rfl
  | cons a l =>
    have : min 1 (a :: l).length = 1 := by simp
    rw [this]
    simp
def abcL : Str := "abcdefghijklmnopqrstuvwxyz"
def digL : Str := "0123456789"
theorem abc_list : abcL.cps.toList = List.range' 97 26 := by decide +kernel
theorem dig_list : digL.cps.toList = List.range' 48 10 := by decide +kernel
theorem abc_mem (c : Nat) : decide (c ∈ abcL.cps.toList) = (decide (97 ≤ c) && decide (c ≤ 122)) := by
  rw [abc_list, Bool.eq_iff_iff]
  simp only [decide_eq_true_eq, Bool.and_eq_true, List.mem_range'_1]
  omega
theorem dig_mem (c : Nat) : decide (c ∈ digL.cps.toList) = (decide (48 ≤ c) && decide (c ≤ 57)) := by
  rw [dig_list, Bool.eq_iff_iff]
  simp only [decide_eq_true_eq, Bool.and_eq_true, List.mem_range'_1]
  omega
theorem isRc_eq (l : List Nat) : isRc l = ((l.head? == some 114) && (decide (1 ≤ (l.drop 1).length) && (decide ((l.drop 1).length ≤ 60) && (((l.drop 1).all fun c => decide (48 ≤ c) && decide (c ≤ 57)) && ((l.drop 1) == [48] || (l.drop 1).head? != some 48))))) := by
  unfold isRc
  split
  · rfl
  · rename_i h
    cases l with
    | nil => rfl
    | cons a l =>
      have : ¬ a = 114 := fun z => h l (by rw [z])
      show false = ((some a == some 114) && _)
      have e : (some a == some 114) = false := by simp [this]
      rw [e]
      rfl
theorem str_eq_of {x y : Str} (h : x.cps.toList = y.cps.toList) : x = y := by
  obtain ⟨⟨l⟩⟩ := x
  obtain ⟨⟨l'⟩⟩ := y
  cases (show l = l' from h)
  rfl
def spIsL : Sp := fun vs H Q _ => ∃ x : Str, vs = [.str x] ∧ x.length ≤ sizeLine ∧ ∀ H', Same H H' → Q (.bl (isLc x.cps.toList)) H'
def spIsR : Sp := fun vs H Q _ => ∃ x : Str, vs = [.str x] ∧ x.length ≤ sizeLine ∧ ∀ H', Same H H' → Q (.bl (isRc x.cps.toList)) H'
def spIsS : Sp := fun vs H Q _ => ∃ x : Str, vs = [.str x] ∧ x.length ≤ sizeLine ∧ ∀ H', Same H H' → Q (.bl (isSym x)) H'
end Ow

set_option Elab.async false
set_option linter.all false
set_option maxRecDepth 100000
set_option maxHeartbeats 4000000
namespace Ow
open PySem PySem.Spec PyProof.Rows L2
def top (i : Nat) : Stmt := PySem.Challenge.pw_owedanswers_k11_functions_read.main.body.getD i (.Pass ⟨0, 0, 0, 0⟩)
structure Txt (mg : Str → Option Value) : Prop where
  n_len : mg "len" = none
  n_abs : mg "abs" = none
  n_int : mg "int" = none
  n_str : mg "str" = none
  n_min : mg "min" = none
  n_max : mg "max" = none
  n_all : mg "all" = none
  n_range : mg "range" = none
  n_sorted : mg "sorted" = none
  n_list : mg "list" = none
  n_tuple : mg "tuple" = none
  n_dict : mg "dict" = none
  n_isinstance : mg "isinstance" = none
  n_sum : mg "sum" = none
  mg_LETTERS : ∃ t, mg "LETTERS" = some (.str "abcdefghijklmnopqrstuvwxyz" t)
  n_enumerate : mg "enumerate" = none
  n_set : mg "set" = none
  mg_MOST_LETTERS : ∃ t, mg "MOST_LETTERS" = some (.int 3 t)
  mg_MOST_ROWS : ∃ t, mg "MOST_ROWS" = some (.int 24 t)
  mg_MOST_LISTS : ∃ t, mg "MOST_LISTS" = some (.int 3 t)
  mg_MOST_DEPTH : ∃ t, mg "MOST_DEPTH" = some (.int 5 t)
  mg_MOST_RETRIES : ∃ t, mg "MOST_RETRIES" = some (.int 2 t)
local macro_rules | `(tactic| walk_at "rd") => `(tactic| repeat (first | (refine ⟨_, rfl, ?_⟩) | (refine ⟨_, _, rfl, rfl, ?_⟩) | (refine Or.inl ⟨_, rfl, ?_⟩) | (refine ⟨(by first | (show (0 : Int) < (_ : Int); decide) | exact Or.inl ⟨by decide, by decide⟩ | exact Or.inr ⟨by decide, by decide⟩ | exact ⟨by decide, by decide⟩ | exact ⟨by decide, by decide, by decide⟩), ?_⟩)))
section
variable {P : Program} {w : World} {K : PySem.W.Frag} {mg : Str → Option Value} {base : Heap}
abbrev s_law_bag : Stmt := top 29
theorem sc_law_bag : FnScope ["script", "at", "cell", "digits"] ["script", "at"] (defScope s_law_bag) := ⟨rfl, rfl, rfl, by decide +kernel, rfl, by decide +kernel, by decide +kernel⟩
theorem ok_bag {f : Addr} {fd : FuncData} (F : Fun K "_law_bag" "_law_bag" s_law_bag f fd) (T : Txt mg) : FnOk P w K mg base CX0 1 f fd ["script", "at"] (spBag K) := by
  refine F.ok sc_law_bag (fun vs H Q E h => ?_) (fun cdv A outer s H vs Q E hr h => ?_)
  · obtain ⟨a, ns, j, rfl, _⟩ := h
    rfl
  · obtain ⟨a, ns, j, rfl, hS, hl, hj, k⟩ := h
    have hu := hu_of hr
    refine ⟨_, (pss_cons (ps_set (i := 2) sc_law_bag.nd rfl (Or.inl rfl) (pe_ifExp (pt_cmpR op_lt (pv 1) (pe_callB call_len_seq (by rfl) T.n_len (by decide +kernel) (pa_cons (pv 0) pa_nil)) (nomark _)) (pe_ix ix_list (pv 0) (pv 1) (fun _ _ => rfl)) pe_int))
      (pss_cons (ps_set (i := 3) sc_law_bag.nd rfl (Or.inl rfl) (pe_ifExp (pt_cmpR op_ge (pe_callB call_abs (by rfl) T.n_abs (by decide +kernel) (pa_cons (pv 2) pa_nil)) (pe_op op_pow pe_int pe_int) (nomark _)) (pe_callB call_abs (by rfl) T.n_abs (by decide +kernel) (pa_cons (pv 2) pa_nil)) pe_int))
      (pss_one (ps_ret (pe_lst (pa_cons (pv 3) (pa_cons (pe_op op_add (pe_op op_add (pe_op op_mul (pe_op op_mod (pe_callTy call_int1 (by rfl) T.n_int (by decide +kernel) (pa_cons (pv 2) pa_nil)) pe_int) pe_int) (pe_op op_mul pe_int (pv 1))) pe_int) (pa_cons pe_int pa_nil)))))))), ?_⟩
    refine ⟨_, rfl, _, rfl, a, _, rfl, .inl hS, _, _, rfl, rfl, _, rfl, ?_⟩
    refine ite2 (fun h => ?_) (fun h => ?_)
    · have hj' : j < ns.length := by
        have h := of_decide_eq_true h
        rw [List.length_map] at h
        omega
      refine ⟨_, rfl, _, rfl, a, _, _, _, rfl, rfl, hS, atI_nat (j := j) (v := .int ns[j]) (by rw [List.getElem?_map, List.getElem?_eq_getElem hj']; rfl), ?_⟩
      generalize ns[j] = cell
      walk_at "rd"
      refine ite2 (fun h => ?_) (fun h => ?_)
      all_goals
        walk_at "rd"
        refine ⟨by show 3 ≤ sizeLine; decide, fun b hb => k b _ hb ⟨_, _, _, upd_same, ?_, ?_, Int.le_refl 0, Int.le_refl 0⟩ fun a o e => (upd_ne (ne_of_none e hb)).trans e⟩
        · have := Int.emod_nonneg cell (show (2305843009213693951 : Int) ≠ 0 by decide)
          omega
        · have := Int.emod_lt_of_pos cell (show (0 : Int) < 2305843009213693951 by decide)
          omega
    · walk_at "rd"
      refine ⟨by show 3 ≤ sizeLine; decide, fun b hb => k b _ hb ⟨_, _, _, upd_same, ?_, ?_, Int.le_refl 0, Int.le_refl 0⟩ fun a o e => (upd_ne (ne_of_none e hb)).trans e⟩
      · omega
      · omega
abbrev s_law_take : Stmt := top 30
theorem sc_law_take : FnScope ["bag", "many", "mixed", "digit"] ["bag", "many"] (defScope s_law_take) := ⟨rfl, rfl, rfl, by decide +kernel, rfl, by decide +kernel, by decide +kernel⟩
theorem ok_take {f : Addr} {fd : FuncData} (F : Fun K "_law_take" "_law_take" s_law_take f fd) (T : Txt mg) : FnOk P w K mg base CX0 1 f fd ["bag", "many"] spTake := by
  refine F.ok sc_law_take (fun vs H Q E h => ?_) (fun cdv A outer s H vs Q E hr h => ?_)
  · obtain ⟨b, n, many, rfl, _⟩ := h
    rfl
  · obtain ⟨b, n, many, rfl, ⟨d, m, c, hb, h1, h2, h3, h4⟩, hn, hm, hz, k⟩ := h
    have hu := hu_of hr
    refine ⟨_, (pss_cons (ps_if (pt_cmpR op_gt (pe_ix ix_list (pv 0) pe_int (fun _ _ => rfl)) pe_int (nomark _)) (pss_cons (ps_set (i := 3) sc_law_take.nd rfl (Or.inl rfl) (pe_op op_mod (pe_callTy call_int1 (by rfl) T.n_int (by decide +kernel) (pa_cons (pe_ix ix_list (pv 0) pe_int (fun _ _ => rfl)) pa_nil)) (pv 1)))
      (pss_cons (ps_asg (pe_op op_fdivW (pe_ix ix_list (pv 0) pe_int (fun _ _ => rfl)) (pv 1)) (pg_sub (pv 0) pe_int set_list))
      (pss_one (ps_ret (pv 3))))) pss_nil)
      (pss_cons (ps_asg (pe_op op_add (pe_ix ix_list (pv 0) pe_int (fun _ _ => rfl)) pe_int) (pg_sub (pv 0) pe_int set_list))
      (pss_cons (ps_set (i := 2) sc_law_take.nd rfl (Or.inl rfl) (pe_op op_mod (pe_callTy call_int1 (by rfl) T.n_int (by decide +kernel) (pa_cons (pe_op op_pow (pe_op op_add (pe_ix ix_list (pv 0) pe_int (fun _ _ => rfl)) (pe_op op_mul pe_int (pe_ix ix_list (pv 0) pe_int (fun _ _ => rfl)))) pe_int) pa_nil)) pe_int))
      (pss_cons (ps_set (i := 2) sc_law_take.nd rfl (Or.inl rfl) (pe_op op_mod (pe_callTy call_int1 (by rfl) T.n_int (by decide +kernel) (pa_cons (pe_op op_pow (pe_op op_add (pv 2) (pe_op op_mul pe_int (pe_ix ix_list (pv 0) pe_int (fun _ _ => rfl)))) pe_int) pa_nil)) pe_int))
      (pss_one (ps_ret (pe_op op_mod (pe_callTy call_int1 (by rfl) T.n_int (by decide +kernel) (pa_cons (pe_op op_fdiv (pv 2) pe_int) pa_nil)) (pv 1)))))))), ?_⟩
    have hS : SqL K H b [.int d, .int m, .int c] := SqL.of hb
    refine ⟨_, rfl, b, _, 0, _, rfl, rfl, hS, ix0, ?_⟩
    walk_at "rd"
    refine ite2 (fun h => ?_) (fun h => ?_)
    · refine ⟨_, rfl, b, _, 0, _, rfl, rfl, hS, ix0, ?_⟩
      walk_at "rd"
      refine ⟨hm, ?_⟩
      refine ⟨_, rfl, b, _, 0, _, rfl, rfl, hS, ix0, ?_⟩
      walk_at "rd"
      refine ⟨wide_div hm hz (by decide) (by decide), ?_⟩
      walk_at "rd"
      refine ⟨b, _, 0, 0, rfl, rfl, hb, rfl, ?_⟩
      walk_at "rd"
      exact k _ _ (Int.emod_nonneg _ (Int.ne_of_gt hm)) (Int.emod_lt_of_pos _ hm) ⟨_, _, _, upd_same, h1, h2, h3, by omega⟩ (Stay.upd (Stay.refl b H))
    · refine ⟨_, rfl, b, _, 2, _, rfl, rfl, hS, ix2, ?_⟩
      walk_at "rd"
      refine ⟨b, _, 2, 2, rfl, rfl, hb, rfl, ?_⟩
      have hS2 : SqL K (upd H b (.lst [.int d, .int m, .int (c + 1)])) b [.int d, .int m, .int (c + 1)] := SqL.of upd_same
      refine ⟨_, rfl, b, _, 1, _, rfl, rfl, hS2, ix1, ?_⟩
      walk_at "rd"
      refine ⟨b, _, 2, _, rfl, rfl, hS2, ix2, ?_⟩
      walk_at "rd"
      refine ⟨⟨by decide, by decide, by show _ < 18446744073709551616; omega⟩, ?_⟩
      walk_at "rd"
      refine ⟨b, _, 2, _, rfl, rfl, hS2, ix2, ?_⟩
      walk_at "rd"
      have a1 := Int.emod_nonneg ((m + 15485863 * (c + 1)) ^ (3 : Int).toNat) (show (2305843009213693921 : Int) ≠ 0 by decide)
      have a2 := Int.emod_lt_of_pos ((m + 15485863 * (c + 1)) ^ (3 : Int).toNat) (show (0 : Int) < 2305843009213693921 by decide)
      refine ⟨⟨by decide, by decide, ?_⟩, ?_⟩
      · show _ < 18446744073709551616
        omega
      walk_at "rd"
      refine ⟨hm, ?_⟩
      exact k _ _ (Int.emod_nonneg _ (Int.ne_of_gt hm)) (Int.emod_lt_of_pos _ hm) ⟨_, _, _, upd_same, h1, h2, by show 0 ≤ c + 1; omega, by show c + 1 ≤ _; omega⟩ (Stay.upd (Stay.refl b H))
end
end Ow

set_option Elab.async false
set_option linter.all false
set_option maxRecDepth 100000
set_option maxHeartbeats 1000000
namespace Ow
open PySem PySem.Spec PyProof.Rows L2
/-- a classmethod of the class at C, with its promise -/
structure CalC (P : Program) (w : World) (K : PySem.W.Frag) (mg : Str → Option Value) (base : Heap) (C : Addr) (m : Str) (k : Nat) (sp : Sp) : Prop where
  ex : ∃ (mc : Value) (p g : Addr), ClX.CRead K C mc ∧ ClX.CMet K C mc m p g ∧ FnR P w K mg base CX0 k g sp
section
variable {X : Cx} {k : Nat} {sp : Sp} {x m : Str} {e o : Expr} {es : List Expr} {t : TA} {te : TE} {p pos apos : Pos} {C : Addr}
theorem pe_calC {pl : Sem Bool} (c : CalC X.prog X.w X.K X.mg X.base C m k sp) (hr : Room k X.A) (ho : PE X o te) (ha : PA X (e :: es) t)
    (hst : starEach (e :: es) X.env = (false, eval e X.env) :: starEach es X.env := by rfl) (hpl : (backTo pos (starEach es X.env)).any (·.1) = false := by rfl)
    (ht : eval (.Call (.Attribute o m apos) (e :: es) [] pos) X.env = (do
      let ov ← eval o X.env
      standAt apos.atName
      let (f, first) ← holding [ov] (getMethod ov m pl)
      callWith pos f first (backTo pos (starEach (e :: es) X.env)) (backToKw pos (keywordEach [] X.env))) := by rfl) :
    PE X (.Call (.Attribute o m apos) (e :: es) [] pos) (ClX.tCMeth C sp E0 te t) := by
  obtain ⟨mc, q, g, r, cm, F⟩ := c.ex
  exact ClX.pe_cmeth ho r cm F hr pass0 ha hst hpl ht
end
/-- a dict comprehension over a walk -/
theorem dc_it {J : It} {n : Nat} {G : Hp → Prop} {Y : Nat → Hp → V → Hp → Prop} (w : Walk J n G Y) {g : TG} {tt : TT} {tk tv : TE} {vs : List Nat} {σ : L2.St} {H1 : Hp} {D : Addr} {Qd : Hp → Prop} (Pv : Nat → Hp → Prop) (h0 : Pv 0 (upd H1 D (.dK []))) (hG : ∀ i H, i ≤ n → Pv i H → G H)
    (hs : ∀ i x H H', i < n → Pv i H → Y i H x H' → g x (wipe σ vs) H' fun σ2 H2 => wipe σ2 vs = wipe σ vs ∧ tt σ2 H2 fun b H3 =>
      if b = true then tk σ2 H3 fun y H4 => tv σ2 H4 fun z H5 => ∃ kvs k, y = kV k ∧ H5 D = some (.dK kvs) ∧ kvs.length < sizeLine ∧ Pv (i + 1) (upd H5 D (.dK (putK kvs k z))) else Pv (i + 1) H3) (hd : ∀ H, Pv n H → Qd H) :
    ∃ W : Nat → Nat → Hp → Prop, (∃ m, W 0 m (upd H1 D (.dK []))) ∧ ∀ i m H, W i m H →
      (J.stop i H ∧ Qd H) ∨ (J.go i H ∧ ∃ Nx : Hp → Prop, (∀ H', Nx H' → ∃ m', m' < m ∧ W (i + 1) m' H') ∧ ∀ x H', J.yld i H x H' → g x (wipe σ vs) H' fun σ2 H2 => wipe σ2 vs = wipe σ vs ∧ tt σ2 H2 fun b H3 =>
        if b = true then tk σ2 H3 fun y H4 => tv σ2 H4 fun z H5 => ∃ kvs k, y = kV k ∧ H5 D = some (.dK kvs) ∧ kvs.length < sizeLine ∧ Nx (upd H5 D (.dK (putK kvs k z))) else Nx H3) := by
  refine ⟨fun i m H => m = n - i ∧ i ≤ n ∧ Pv i H, ⟨n, by simp, Nat.zero_le _, h0⟩, fun i m H hW => ?_⟩
  obtain ⟨rfl, hi, p⟩ := hW
  have q := hG i H hi p
  rcases Nat.lt_or_ge i n with hlt | hge
  · exact .inr ⟨w.goes i H hlt q, Pv (i + 1), fun H' p' => ⟨n - (i + 1), by omega, rfl, hlt, p'⟩, fun x H' y => hs i x H H' hlt p (w.yields i H x H' hlt q y)⟩
  · obtain rfl : i = n := by omega
    exact .inl ⟨w.stops H q, hd H p⟩
theorem pe_fldK {X : Cx} {e : Expr} {f : Str} {pos : Pos} {ta : TE} {K : PySem.W.Frag} (hK : X.K = K) (he : PE X e ta) (hb : attributeBase e f X.env (eval e X.env) = eval e X.env) : PE X (.Attribute e f pos) (tFld K ta f) := by
  subst hK
  exact pe_fld he hb
/-! ### forms -/
structure FormK (K : PySem.W.Frag) (C : Addr) : Prop where
  cl : Cls K C
  n1 : NoAttr K C "constant"
  n2 : NoAttr K C "_coefficients"
  ha : PySem.W.findIn K (.ref C) "__class__" = some (some (.builtin "object.__class__"))
  hn : PySem.W.specialIn K (.builtin "object.__class__") "__get__" = some (some (.builtin "getset_descriptor.__get__"))
  htk : PySem.W.takesIn K (.builtin "object.__class__") = some true
  hm : PySem.W.mroIn K C (.type "object") = some true
  i1 : PySem.W.kitOne K (.ref C) (.type "int") = some false
  i2 : PySem.W.kitOne K (.type "int") (.ref C) = some false
abbrev fF (c : Int) (d : Addr) : List (Str × V) := [("constant", .int c), ("_coefficients", .ref d)]
/-- p is a form: constant c, coefficients m (none is nought) -/
structure FormAt (C : Addr) (H : Hp) (p : Addr) (c : Int) (m : Ps) : Prop where
  ex : ∃ dx d, H p = some (.ins C dx (fF c d)) ∧ DictAt H d m
  nz : ∀ q ∈ m, q.2 ≠ 0
theorem FormAt.same {C : Addr} {H H' : Hp} {p : Addr} {c : Int} {m : Ps} (h : FormAt C H p c m) (s : Same H H') : FormAt C H' p c m := by
  obtain ⟨⟨dx, d, h1, h2⟩, n⟩ := h
  exact ⟨⟨dx, d, s _ _ h1, h2.same s⟩, n⟩
theorem FormAt.stay {C b : Addr} {H H' : Hp} {p : Addr} {c : Int} {m : Ps} (h : FormAt C H p c m) (s : Stay b H H') (hb : ∃ xs, H b = some (.lst xs)) : FormAt C H' p c m := by
  obtain ⟨⟨dx, d, h1, h2⟩, n⟩ := h
  obtain ⟨xs, hb⟩ := hb
  exact ⟨⟨dx, d, s _ _ (ne_of h1 hb (by intro z; cases z)) h1, s _ _ (ne_of h2.at_ hb (by intro z; cases z)) h2.at_, h2.nd, h2.sym⟩, n⟩
def nzs (m : Ps) : Ps := m.filter fun q => decide (q.2 ≠ 0)
theorem nzs_co : ∀ (m : Ps) (s : Str), co (nzs m) s = co m s
  | [], _ => rfl
  | (x, v) :: m, s => by
    have ih := nzs_co m s
    unfold nzs at ih ⊢
    rw [List.filter_cons]
    by_cases e : v = 0
    · subst e
      rw [if_neg (by simp)]
      show _ = (if x = s then 0 else 0) + co m s
      rw [ih]
      simp
    · rw [if_pos (by simpa using e)]
      show (if x = s then v else 0) + _ = (if x = s then v else 0) + co m s
      rw [ih]
theorem nzs_sub (m : Ps) : (nzs m).Sublist m := List.filter_sublist
theorem nzs_nz {m : Ps} : ∀ q ∈ nzs m, q.2 ≠ 0 := fun q hq => of_decide_eq_true (List.mem_filter.mp hq).2
theorem nzs_take {m : Ps} {i : Nat} {q : Str × Int} (h : m[i]? = some q) : nzs (m.take (i + 1)) = nzs (m.take i) ++ if q.2 = 0 then [] else [q] := by
  unfold nzs
  rw [take_snoc h, List.filter_append]
  congr 1
  by_cases e : q.2 = 0
  · rw [if_pos e]
    simp [e]
  · rw [if_neg e]
    simp [e]
theorem take_new {m : Ps} {i : Nat} {q : Str × Int} (nd : (m.map (·.1)).Nodup) (h : m[i]? = some q) : q.1 ∉ (nzs (m.take i)).map (·.1) := by
  intro hq
  have h1 : q.1 ∈ (m.take i).map (·.1) := ((nzs_sub _).map _).subset hq
  have h2 : ((m.take (i + 1)).map (·.1)).Nodup := nd.sublist ((List.take_sublist _ _).map _)
  rw [take_snoc h, List.map_append, List.nodup_append] at h2
  exact h2.2.2 _ h1 q.1 (by simp) rfl
theorem keyed_kvI (m : Ps) : KwX.keyed (m.map fun p => (p.1, V.int p.2)) = kvI m := by
  unfold KwX.keyed kvI
  rw [List.map_map]
  rfl
def spInit (C : Addr) : Sp := fun vs H Q _ => ∃ (x d dx : Addr) (c : Int) (m : Ps), vs = [.ref x, .int c, .ref d] ∧ H x = some (.ins C dx []) ∧ DictAt H d m ∧ m.length < 64 ∧
  ∀ d' H', H d' = none → H' x = some (.ins C dx (fF c d')) → DictAt H' d' (nzs m) → Stay x H H' → Q .non H'
def spOf (C : Addr) : Sp := fun vs H Q _ => ∃ (c : Int) (l : Addr) (ps : Ps), vs = [.ref C, .int c, .ref l] ∧ PairsAt H l ps ∧ (∀ q ∈ ps, isSym q.1 = true) ∧ ps.length < 64 ∧
  ∀ p m H', H p = none → FormAt C H' p c m → m.length ≤ ps.length → (∀ s, co m s = co ps s) → Same H H' → Q (.ref p) H'
def spSymbols (C : Addr) : Sp := fun vs H Q _ => ∃ (p : Addr) (c : Int) (m : Ps), vs = [.ref p] ∧ FormAt C H p c m ∧ m.length < 64 ∧
  ∀ l ys H', ys.Perm (m.map (·.1)) → sortedS ys = true → H l = none → H' l = some (.lst (ys.map V.str)) → Same H H' → Q (.ref l) H'
def spFPairs (C : Addr) : Sp := fun vs H Q _ => ∃ (p : Addr) (c : Int) (m : Ps), vs = [.ref p] ∧ FormAt C H p c m ∧ m.length < 64 ∧
  ∀ l L H', PairsAt H' l L → Can L (co m) → (∀ q ∈ L, isSym q.1 = true) → L.length ≤ m.length → H l = none → Same H H' → Q (.ref l) H'
def spFWritten (C : Addr) : Sp := fun vs H Q _ => ∃ (p : Addr) (c : Int) (m : Ps), vs = [.ref p] ∧ FormAt C H p c m ∧ m.length < 64 ∧
  ∀ x L H', WrAt H' x c L → Can L (co m) → (∀ q ∈ L, isSym q.1 = true) → Same H H' → Q x H'
end Ow

set_option Elab.async false
set_option linter.all false
set_option maxRecDepth 100000
set_option maxHeartbeats 1000000
namespace Ow
open PySem PySem.Spec PyProof.Rows L2
section
variable {X : Cx} {k : Nat} {sp : Sp} {C : Addr}
theorem op_or {f : Value → Value → Sem Value} {r1 r2 : R2} (h1 : OpR X f r1) (h2 : OpR X f r2) : OpR X f (fun x y H Q => r1 x y H Q ∨ r2 x y H Q) :=
  fun pins s σ H x y v u Q I rx ry h => h.elim (h1 pins s σ H x y v u Q I rx ry) (h2 pins s σ H x y v u Q I rx ry)
theorem un_or {f : Value → Sem Value} {r1 r2 : V → Hp → VK → Prop} (h1 : UnR X f r1) (h2 : UnR X f r2) : UnR X f (fun x H Q => r1 x H Q ∨ r2 x H Q) :=
  fun pins s σ H x v Q I rx h => h.elim (h1 pins s σ H x v Q I rx) (h2 pins s σ H x v Q I rx)
/-- an operator of the class at C, with its promise -/
structure CalO (P : Program) (w : World) (K : PySem.W.Frag) (mg : Str → Option Value) (base : Heap) (C : Addr) (op : Operator) (k : Nat) (sp : Sp) : Prop where
  ex : ∃ (f : Addr) (fd : FuncData) (ps : List Str), OpX.OpC K C op f ∧ FnOk P w K mg base CX0 k f fd ps sp ∧ Binds K fd ps []
theorem op_calO {op : Operator} (c : CalO X.prog X.w X.K X.mg X.base C op k sp) (hr : Room k X.A) : OpR X (binaryOp op) (OpX.rOwn C sp E0) := by
  obtain ⟨f, fd, ps, O, F, hb⟩ := c.ex
  exact OpX.op_own O F hr hb pass0
structure CalR (P : Program) (w : World) (K : PySem.W.Frag) (mg : Str → Option Value) (base : Heap) (C : Addr) (op : Operator) (k : Nat) (sp : Sp) : Prop where
  ex : ∃ (f : Addr) (fd : FuncData) (ps : List Str), OpX.OpR' K C op f ∧ FnOk P w K mg base CX0 k f fd ps sp ∧ Binds K fd ps []
theorem op_calR {op : Operator} {id : String} (L : OpX.IntL op id) (c : CalR X.prog X.w X.K X.mg X.base C op k sp) (hr : Room k X.A) : OpR X (binaryOp op) (OpX.rRev C sp E0) := by
  obtain ⟨f, fd, ps, O, F, hb⟩ := c.ex
  exact OpX.op_rev L O F hr hb pass0
structure CalU (P : Program) (w : World) (K : PySem.W.Frag) (mg : Str → Option Value) (base : Heap) (C : Addr) (k : Nat) (sp : Sp) : Prop where
  ex : ∃ (f : Addr) (fd : FuncData) (ps : List Str), PySem.W.findIn K (.ref C) "__neg__" = some (some (.ref f)) ∧ PySem.W.isFn K (.ref f) = true ∧ FnOk P w K mg base CX0 k f fd ps sp ∧ Binds K fd ps []
def rNeg (C : Addr) (sp : Sp) : V → Hp → VK → Prop := fun x H Q => ∃ a dx fs, x = .ref a ∧ H a = some (.ins C dx fs) ∧ sp [x] H Q E0
theorem un_calU (c : CalU X.prog X.w X.K X.mg X.base C k sp) (hr : Room k X.A) : UnR X (unaryOp .USub) (rNeg C sp) := by
  obtain ⟨f, fd, ps, hs, hf, F, hb⟩ := c.ex
  exact OpX.un_own hs hf F hr hb pass0
end
/-! ### what stands at the right of an operator: an int, or a form -/
def OprAt (C : Addr) (H : Hp) (y : V) (k : Int) (g : Str → Int) (n : Nat) : Prop :=
  (y = .int k ∧ (∀ s, g s = 0) ∧ n = 0) ∨ ∃ a m, y = .ref a ∧ FormAt C H a k m ∧ (∀ s, g s = co m s) ∧ n = m.length
theorem OprAt.same {C : Addr} {H H' : Hp} {y : V} {k : Int} {g : Str → Int} {n : Nat} (h : OprAt C H y k g n) (s : Same H H') : OprAt C H' y k g n := by
  rcases h with h | ⟨a, m, h1, h2, h3⟩
  · exact .inl h
  · exact .inr ⟨a, m, h1, h2.same s, h3⟩
def MulOk (i j : Int) : Prop := CMul i j ∨ CMulW i j
theorem MulOk.neg (i : Int) : MulOk i (-1) := .inl (.inr ⟨by decide, by decide⟩)
/-- an operator on forms: what the new one is -/
def OutF (C : Addr) (H : Hp) (Q : VK) (c : Int) (g : Str → Int) (n : Nat) : Prop :=
  ∀ p m H', H p = none → FormAt C H' p c m → (∀ s, co m s = g s) → m.length ≤ n → Same H H' → Q (.ref p) H'
def spAdd (C : Addr) : Sp := fun vs H Q _ => ∃ (p : Addr) (c : Int) (m : Ps) (y : V) (k : Int) (g : Str → Int) (n : Nat), vs = [.ref p, y] ∧ FormAt C H p c m ∧ OprAt C H y k g n ∧ m.length < 30 ∧ n < 30 ∧
  OutF C H Q (c + k) (fun s => co m s + g s) (m.length + n)
def spSub (C : Addr) : Sp := fun vs H Q _ => ∃ (p : Addr) (c : Int) (m : Ps) (y : V) (k : Int) (g : Str → Int) (n : Nat), vs = [.ref p, y] ∧ FormAt C H p c m ∧ OprAt C H y k g n ∧ m.length < 30 ∧ n < 30 ∧
  OutF C H Q (c - k) (fun s => co m s - g s) (m.length + n)
def spRsub (C : Addr) : Sp := fun vs H Q _ => ∃ (p : Addr) (c : Int) (m : Ps) (k : Int), vs = [.ref p, .int k] ∧ FormAt C H p c m ∧ m.length < 30 ∧ OutF C H Q (k - c) (fun s => -co m s) m.length
def spRadd (C : Addr) : Sp := fun vs H Q _ => ∃ (p : Addr) (c : Int) (m : Ps) (k : Int), vs = [.ref p, .int k] ∧ FormAt C H p c m ∧ m.length < 30 ∧ OutF C H Q (c + k) (fun s => co m s) m.length
def spNeg (C : Addr) : Sp := fun vs H Q _ => ∃ (p : Addr) (c : Int) (m : Ps), vs = [.ref p] ∧ FormAt C H p c m ∧ m.length < 30 ∧ OutF C H Q (-c) (fun s => -co m s) m.length
def spMul (C : Addr) : Sp := fun vs H Q _ => ∃ (p : Addr) (c : Int) (m : Ps) (k : Int), vs = [.ref p, .int k] ∧ FormAt C H p c m ∧ m.length < 60 ∧ MulOk c k ∧ (∀ q ∈ m, MulOk q.2 k) ∧ OutF C H Q (c * k) (fun s => co m s * k) m.length
def spTimes : Sp := fun vs H Q _ => ∃ (a : Addr) (m : Ps) (k : Int), vs = [.ref a, .int k] ∧ DictAt H a m ∧ m.length < 30 ∧ (∀ q ∈ m, MulOk k q.2) ∧
  ∀ d m' H', H d = none → DictAt H' d m' → m'.length ≤ m.length → (∀ s, co m' s = k * co m s) → Same H H' → Q (.ref d) H'
theorem co_mulL (L : Ps) (k : Int) (s : Str) : co (L.map fun q => (q.1, k * q.2)) s = k * co L s := by
  induction L with
  | nil => exact (Int.mul_zero k).symm
  | cons q L ih =>
    show (if q.1 = s then k * q.2 else 0) + co (L.map fun q => (q.1, k * q.2)) s = k * ((if q.1 = s then q.2 else 0) + co L s)
    rw [ih, Int.mul_add]
    by_cases e : q.1 = s
    · rw [if_pos e, if_pos e]
    · rw [if_neg e, if_neg e, Int.mul_zero]
theorem co_mul (L : Ps) (k : Int) (s : Str) : co (L.map fun q => (q.1, q.2 * k)) s = co L s * k := by
  induction L with
  | nil => exact (Int.zero_mul k).symm
  | cons q L ih =>
    show (if q.1 = s then q.2 * k else 0) + co (L.map fun q => (q.1, q.2 * k)) s = ((if q.1 = s then q.2 else 0) + co L s) * k
    rw [ih, Int.add_mul]
    by_cases e : q.1 = s
    · rw [if_pos e, if_pos e]
    · rw [if_neg e, if_neg e, Int.zero_mul]
theorem form_ty {K : PySem.W.Frag} {C : Addr} {H : Hp} {p : Addr} {c : Int} {m : Ps} (R : FormK K C) (h : FormAt C H p c m) : TyX K H (.ref p) (.ref C) := by
  obtain ⟨⟨dx, d, h1, _⟩, _⟩ := h
  exact .base (.ins h1 R.cl R.ha R.hn R.htk R.hm)
theorem kit_same {K : PySem.W.Frag} (t : Value) : PySem.W.kitOne K t t = some true := by
  unfold PySem.W.kitOne
  rw [if_pos (beq_self_eq_true t)]
/-- isinstance of an int and of a form -/
theorem isi_int {K : PySem.W.Frag} {H : Hp} {Q : VK} {i : Int} (h : Q (.bl true) H) : rIsi K [.int i, .ty "int"] H Q := ⟨_, _, _, _, true, rfl, .ty "int", .base (.int i), kit_same _, h⟩
theorem isi_int0 {K : PySem.W.Frag} {C : Addr} {H : Hp} {Q : VK} {i : Int} (R : FormK K C) (h : Q (.bl false) H) : rIsi K [.int i, .ref C] H Q := ⟨_, _, _, _, false, rfl, .own C, .base (.int i), R.i2, h⟩
theorem isi_form {K : PySem.W.Frag} {C : Addr} {H : Hp} {Q : VK} {p : Addr} {c : Int} {m : Ps} (R : FormK K C) (hF : FormAt C H p c m) (h : Q (.bl true) H) : rIsi K [.ref p, .ref C] H Q := ⟨_, _, _, _, true, rfl, .own C, form_ty R hF, kit_same _, h⟩
theorem isi_form0 {K : PySem.W.Frag} {C : Addr} {H : Hp} {Q : VK} {p : Addr} {c : Int} {m : Ps} (R : FormK K C) (hF : FormAt C H p c m) (h : Q (.bl false) H) : rIsi K [.ref p, .ty "int"] H Q := ⟨_, _, _, _, false, rfl, .ty "int", form_ty R hF, R.i1, h⟩
theorem paired_app {α β : Type} {F : α → β → Prop} {l2 : List α} {m2 : List β} (h : Paired F l2 m2) : ∀ {l : List α} {m : List β}, Paired F l m → Paired F (l ++ l2) (m ++ m2)
  | _, _, .nil => h
  | _, _, .cons g r => .cons g (paired_app h r)
theorem none_back {H H' : Hp} {a : Addr} (s : Same H H') (h : H' a = none) : H a = none := by
  cases q : H a with
  | none => rfl
  | some o => rw [s _ _ q] at h; cases h
end Ow

set_option Elab.async false
set_option linter.all false
set_option maxRecDepth 100000
set_option maxHeartbeats 1000000
namespace Ow
open PySem PySem.Spec PyProof.Rows L2
theorem same_stay {b : Addr} {H H1 H2 : Hp} (s : Same H H1) (hb : H b = none) (t : Stay b H1 H2) : Same H H2 := fun a o e => t a o (ne_of_none e hb) (s a o e)
theorem seq_cut {a b : TS} {D : Ends} {σ : L2.St} {H : Hp} (R : Hp → Prop) (fin : ∀ H', R H' → b D σ H') (main : (∀ H', R H' → b D σ H') → tSeq a b D σ H) : tSeq a b D σ H := main fin
def spLaw (K : PySem.W.Frag) : Sp := fun vs H Q _ => ∃ (a : Addr) (ns : List Int), vs = [.ref a] ∧ SqL K H a (ns.map V.int) ∧ ns.length ≤ 63 ∧ ∀ H', Q (.bl true) H'
/-- two written tuples are one -/
theorem wr_one {L L' : Ps} {g g' : Str → Int} {c c' : Int} (c1 : Can L g) (c2 : Can L' g') (e : ∀ s, g s = g' s) (ec : c = c') (hS : ∀ q ∈ L, isSym q.1 = true) : PyData.eqv (datW c L) (datW c' L') = true := by
  rw [← can_one c1 c2 e, ← ec]
  exact eqvW c hS
theorem can_nil {L : Ps} {g : Str → Int} (c : Can L g) (h : ∀ s, g s = 0) : L = [] := by
  cases L with
  | nil => rfl
  | cons q L => exact absurd (h q.1) ((can_mem c q.1).mp (by simp))
theorem wr_nil {L : Ps} {g : Str → Int} {c : Int} (c1 : Can L g) (h : ∀ s, g s = 0) (ec : c = 0) : PyData.eqv (datW c L) (.tuple [.int 0, .tuple []]) = true := by
  rw [can_nil c1 h, ec]
  rfl
theorem PairsAt.over {H : Hp} {l x : Addr} {ps : Ps} {xs ys : List V} (h : PairsAt H l ps) (hx : H x = some (.lst xs)) (ne : l ≠ x) : PairsAt (L2.upd H x (.lst ys)) l ps := by
  obtain ⟨zs, hz, hp⟩ := h
  refine ⟨zs, (upd_ne ne).trans hz, paired_map (fun y q hq => ?_) hp⟩
  obtain ⟨u, rfl, hu⟩ := hq
  exact ⟨u, rfl, (upd_ne (ne_of hu hx (by intro z; cases z))).trans hu⟩
theorem pairs_copy {H : Hp} {l : Addr} {ps : Ps} {xs : List V} (hp : Paired (PairAt H) xs ps) (hl : H l = none) : PairsAt (upd H l (.lst xs)) l ps :=
  ⟨xs, upd_same, paired_map (fun _ _ q => q.same (same_new (fun _ _ e => e) hl)) hp⟩
end Ow

set_option Elab.async false
set_option linter.all false
set_option maxRecDepth 100000
set_option maxHeartbeats 1000000
namespace OpX
open PySem PySem.Spec PyProof.Rows L2
/-- no class of C's has the operator in place -/
structure NoI (K : PySem.W.Frag) (C : Addr) (op : Operator) : Prop where
  mro : ∃ cd, PySem.W.clsIn K C = some cd ∧ cd.mro = [.ref C, .type "object"]
  own : PySem.W.findIn K (.ref C) (PySem.dunderI op.info.2) = some none
  obj : PySem.W.findIn K (.type "object") (PySem.dunderI op.info.2) = some none
open PySem.W in
theorem no_fills {K : PySem.W.Frag} {C : Addr} {op : Operator} {M : Model} {h : Heap} {add : Bool} (N : NoI K C op) (KX : K.In h) : Looks M h (fillsInplaceSlot (.ref C) op.info.2 add) false := by
  intro A Q E s k q
  obtain ⟨cd, hcd, hm⟩ := N.mro
  have Lm : Looks M h (mroOf (.ref C)) cd.mro := (looks_clsIn KX hcd).andThen (f := fun cd => pure cd.mro) .now
  have Lm' := Lm.keeps k
  obtain ⟨hh, g, d, tt, os⟩ := s
  have X' : K.In hh := KX.keeps k
  have La : Looks M hh (typeLookup (.ref C) (dunderI op.info.2)) none := looks_findIn X' N.own
  have Lb : Looks M hh (typeLookup (.type "object") (dunderI op.info.2)) none := looks_findIn X' N.obj
  unfold fillsInplaceSlot
  refine wpAny_bind (Lm'.at ?_)
  rw [hm, List.anyM_cons, List.anyM_cons]
  refine wpAny_bind ?_
  repeat lk
  exact q
open PySem.W in
theorem one_own {K : PySem.W.Frag} {h0 : Heap} {Lx m} {prog : Program} {w : World} {A : Around} {E : Value → Shared → Prop} {s : Shared} {x C f : Addr} {ox od : Obj} {op : Operator} {b : Value} {Q : Value → Shared → Prop} (F : Fr h0 Lx s.heap m) (X₀ : K.In h0) (I : InstAt s.heap x ox C od) (O : OpC K C op f)
    (hb : typeOf b = pure (.type "int") ∨ Looks (model prog w) s.heap (typeOf b) (.ref C)) (h : wpAny (model prog w) A (call (.ref f) [.ref x, b]) (PySem.W.CmpBack Q) E s) :
    wpAny (model prog w) A (binaryOp1 op.info.2 (.ref x) b) (fun r s' => ∃ v, r = some v ∧ Q v s') E s := by
  have X := X₀.keeps F.keep
  obtain ⟨cd, rest, hcd, hm⟩ := ksp_first O.first
  have hs := O.at_
  obtain ⟨rc, hr, hp⟩ := O.rr
  obtain ⟨fo, h1⟩ := O.i1
  obtain ⟨ro, h2⟩ := O.i2
  have one := ksp_try X I hs O.fn h
  have fills := fills_K X hcd hm hs (M := model prog w)
  rcases hb with hb | hb
  · obtain ⟨hh, g, d, tt, os⟩ := s
    have l1 : Looks (model prog w) hh (typeOf (.ref x)) (.ref C) := I.type
    have l2 : Looks (model prog w) hh (typeOf b) (.type "int") := Looks.of_pure hb
    have l3 : Looks (model prog w) hh (fillsNumberSlot (.ref C) op.info.2) true := fills
    have l4 : Looks (model prog w) hh (fillsNumberSlot (.type "int") op.info.2) ((fo.isSome && !isSeqSlot fo) || (ro.isSome && !isSeqSlot ro)) := ksp_fillsT X h1 h2
    have l5 : Looks (model prog w) hh (isSubtype (.type "int") (.ref C)) false := looks_subIn X O.sub
    have l6 : Looks (model prog w) hh (numberSlotInPython (.ref C) op.info.2) true := ksp_inPy X hs hr hp
    have l7 : Looks (model prog w) hh (numberSlotInPython (.type "int") op.info.2) false := Looks.of_pure rfl
    have l8 : Looks (model prog w) hh (typeLookup (.type "int") (dunderR op.info.2)) ro := looks_findIn X h2
    generalize ((fo.isSome && !isSeqSlot fo) || (ro.isSome && !isSeqSlot ro)) = right at l4
    have hne : (Value.ref C == Value.type "int") = false := Bool.eq_false_iff.mpr fun q => by cases beq_iff_eq.mp q
    unfold binaryOp1
    refine wpAny_bind (l1.at (wpAny_bind (l2.at (wpAny_bind (l3.at ?_)))))
    simp only [hne, Bool.false_eq_true, if_false]
    cases right with
    | false =>
      ksp_lk
      refine wpAny_mono one (fun r s' hr' => ?_) fun _ _ e => e
      obtain ⟨v, rfl, hq⟩ := hr'
      ksp_lk
      exact ⟨v, rfl, hq⟩
    | true =>
      ksp_lk
      refine wpAny_mono one (fun r s' hr' => ?_) fun _ _ e => e
      obtain ⟨v, rfl, hq⟩ := hr'
      ksp_lk
      exact ⟨v, rfl, hq⟩
  · obtain ⟨hh, g, d, tt, os⟩ := s
    have l1 : Looks (model prog w) hh (typeOf (.ref x)) (.ref C) := I.type
    have l2 : Looks (model prog w) hh (typeOf b) (.ref C) := hb
    have l3 : Looks (model prog w) hh (fillsNumberSlot (.ref C) op.info.2) true := fills
    unfold binaryOp1
    refine wpAny_bind (l1.at (wpAny_bind (l2.at (wpAny_bind (l3.at ?_)))))
    simp only [beq_self_eq_true, if_true]
    ksp_lk
    refine wpAny_mono one (fun r s' hr' => ?_) fun _ _ e => e
    obtain ⟨v, rfl, hq⟩ := hr'
    ksp_lk
    exact ⟨v, rfl, hq⟩
section
variable {X : Cx} {CX : CXT} {k : Nat} {f C : Addr} {fd : FuncData} {ps : List Str} {sp : Sp} {E : XK}
/-- x op= y, x an instance without an operator in place -/
theorem op_iown {op : Operator} (O : OpC X.K C op f) (N : NoI X.K C op) (F : FnOk X.prog X.w X.K X.mg X.base CX k f fd ps sp) (hr : Room k X.A) (hb : Binds X.K fd ps []) (hx : Passes CX X E) : OpR X (inplaceOp op) (rOwn C sp E) := by
  intro pins s σ H x y u v Q I rx ry h
  obtain ⟨a, dx, fs, rfl, ha, hy, hsp⟩ := h
  obtain rfl : u = Value.ref a := rx
  obtain ⟨mA, J, _⟩ := ins_get I.hok ha
  obtain ⟨od, J, _⟩ := J.look
  obtain ⟨m, hF⟩ := I.fr
  have hcall : wpAny (model X.prog X.w) X.A (call (.ref f) [.ref a, v]) (PySem.W.CmpBack (EP X pins σ Q)) X.xe s := by
    refine thn (run_fn (Q := Q) (us := [.ref a, v]) (vs := [.ref a, y]) F hr hb .nil hx I (.cons rfl (.cons ry .nil)) (by rw [List.append_nil]; exact hsp)) fun w' s' hh => ?_
    obtain ⟨z, H', I', rz, q⟩ := hh
    exact back rz ⟨z, H', I', rz, q⟩
  have hty : typeOf v = pure (.type "int") ∨ PySem.W.Looks (model X.prog X.w) s.heap (typeOf v) (.ref C) := by
    rcases hy with ⟨i, rfl⟩ | ⟨b, dy, gs, rfl, hb'⟩
    · obtain ⟨t, rfl⟩ := (show ∃ t, v = Value.int i t from ry)
      exact .inl rfl
    · obtain rfl : v = Value.ref b := ry
      obtain ⟨mB, J', _⟩ := ins_get I.hok hb'
      obtain ⟨od', J', _⟩ := J'.look
      exact .inr J'.type
  have one := one_own hF I.ok.mod.kin J O hty hcall
  have l1 : PySem.W.Looks (model X.prog X.w) s.heap (typeOf (.ref a)) (.ref C) := J.type
  have l2 : PySem.W.Looks (model X.prog X.w) s.heap (fillsInplaceSlot (.ref C) op.info.2 (op == .Add)) false := no_fills N I.kIn
  unfold inplaceOp
  refine wpAny_holding ?_
  obtain ⟨hh, g, d, tt, os⟩ := s
  refine wpAny_bind (l1.at (wpAny_bind (l2.at ?_)))
  simp only [Bool.false_eq_true, if_false]
  refine wpAny_bind (wpAny_mono one (fun r s' hr' => ?_) fun _ _ e => e)
  obtain ⟨v, rfl, hq⟩ := hr'
  exact wpAny_pure hq
end
end OpX

set_option Elab.async false
set_option linter.all false
set_option maxRecDepth 100000
set_option maxHeartbeats 1000000
namespace Ow
open PySem PySem.Spec PyProof.Rows L2
section
variable {X : Cx} {k : Nat} {sp : Sp} {C : Addr}
structure CalI (P : Program) (w : World) (K : PySem.W.Frag) (mg : Str → Option Value) (base : Heap) (C : Addr) (op : Operator) (k : Nat) (sp : Sp) : Prop where
  ex : ∃ (f : Addr) (fd : FuncData) (ps : List Str), OpX.OpC K C op f ∧ OpX.NoI K C op ∧ FnOk P w K mg base CX0 k f fd ps sp ∧ Binds K fd ps []
theorem op_calI {op : Operator} (c : CalI X.prog X.w X.K X.mg X.base C op k sp) (hr : Room k X.A) : PIp X op (OpX.rOwn C sp E0) := by
  obtain ⟨f, fd, ps, O, N, F, hb⟩ := c.ex
  exact OpX.op_iown O N F hr hb pass0
end
theorem wr_nilK {L : Ps} {g : Str → Int} {c k : Int} (c1 : Can L g) (h : ∀ s, g s = 0) (ec : c = k) : PyData.eqv (datW c L) (.tuple [.int k, .tuple []]) = true := by
  rw [can_nil c1 h, ec]
  show ((k == k) && (PyData.eqvAll [] [] && true)) = true
  rw [beq_self_eq_true]
  rfl
theorem co_bound {B : Nat} : ∀ {ps : Ps}, (∀ q ∈ ps, q.2.natAbs ≤ B) → ∀ s, (co ps s).natAbs ≤ ps.length * B
  | [], _, _ => Nat.zero_le _
  | q :: ps, h, s => by
    have h1 := co_bound (fun r hr => h r (List.mem_cons_of_mem _ hr)) s
    have h2 := h q List.mem_cons_self
    show ((if q.1 = s then q.2 else 0) + co ps s).natAbs ≤ (ps.length + 1) * B
    have h3 := Int.natAbs_add_le (if q.1 = s then q.2 else 0) (co ps s)
    have h4 : (if q.1 = s then q.2 else 0).natAbs ≤ B := by
      by_cases e : q.1 = s
      · rw [if_pos e]
        exact h2
      · rw [if_neg e]
        exact Nat.zero_le _
    rw [Nat.add_mul, Nat.one_mul]
    omega
theorem log_small {n : Nat} (h : n < 2 ^ 400) : n.log2 ≤ 400 := by
  rcases Nat.eq_zero_or_pos n with z | z
  · rw [z]
    decide
  · exact Nat.le_of_lt ((Nat.log2_lt (Nat.pos_iff_ne_zero.mp z)).mpr h)
theorem MulOk.small {i j : Int} (hi : i.natAbs < 2 ^ 400) (hj : j.natAbs < 2 ^ 400) : MulOk i j := by
  have h1 := log_small hi
  have h2 := log_small hj
  exact .inr (show i.natAbs.log2 + j.natAbs.log2 < 1000000 by omega)
theorem MulOk.left {i j : Int} (hi : -(2 ^ 64) < i ∧ i < 2 ^ 64) : MulOk i j := .inl (.inl hi)
theorem MulOk.right {i j : Int} (hj : -(2 ^ 64) < j ∧ j < 2 ^ 64) : MulOk i j := .inl (.inr hj)
/-- a form's own coefficients are those of what it was made of -/
theorem form_mem {m ps : Ps} (nd : (m.map (·.1)).Nodup) (h : ∀ s, co m s = co ps s) {q : Str × Int} (hq : q ∈ m) : q.2 = co ps q.1 := by
  rw [← h, co_in nd hq]
end Ow

set_option Elab.async false
set_option linter.all false
set_option maxRecDepth 100000
set_option maxHeartbeats 1000000
namespace OpX
open PySem PySem.Spec PyProof.Rows L2
/-- a method that an instance's own syntax reaches: o[i], o(x), .. -/
structure CalG (P : Program) (w : World) (K : PySem.W.Frag) (mg : Str → Option Value) (base : Heap) (C : Addr) (m : Str) (k : Nat) (sp : Sp) : Prop where
  ex : ∃ (f : Addr) (fd : FuncData) (ps : List Str), PySem.W.findIn K (.ref C) m = some (some (.ref f)) ∧ PySem.W.isFn K (.ref f) = true ∧ PySem.W.fnIn K f = true ∧ FnOk P w K mg base CX0 k f fd ps sp ∧ Binds K fd ps []
section
variable {X : Cx} {k : Nat} {sp : Sp} {C : Addr} {o i e : Expr} {to ti te : TE} {pos : Pos}
theorem run_code {CX : CXT} {f : Addr} {fd : FuncData} {ps : List Str} {E : XK} {pins : List (Addr × Obj)} {σ : L2.St} {H : Hp} {s : Shared} {Q : VK} {us : List Value} {vs : List V} (F : FnOk X.prog X.w X.K X.mg X.base CX k f fd ps sp) (hr : Room k X.A) (hb : Binds X.K fd ps [])
    (hx : Passes CX X E) (I : Inv X pins σ H s) (r : Vals vs us) (h : sp vs H Q E) : codeAny (model X.prog X.w) X.A (.call (.ref f) ⟨us, []⟩) (wants (EP X pins σ Q) X.xe) s := by
  have hl : us.length = ps.length := by rw [← r.length]; exact F.len _ _ _ _ h
  have hb' := hb s us I.kIn (by rw [List.append_nil]; exact hl)
  rw [List.append_nil] at hb'
  refine codeAny_mono (F.run X.A X.stack s H ⟨us, []⟩ us vs Q E hr I.env0 hb' r h) fun r s' hq => ?_
  cases r with
  | error e => exact hx pins σ H s e s' I hq
  | ok fl =>
    cases fl with
    | ret u => exact I.after hq
    | next => exact False.elim hq
    | brk => exact False.elim hq
    | cont => exact False.elim hq
/-- .. run one builtin deeper -/
theorem run_in1 {CX : CXT} {f : Addr} {fd : FuncData} {ps : List Str} {E : XK} {pins : List (Addr × Obj)} {σ : L2.St} {H : Hp} {s : Shared} {Q : VK} {us : List Value} {vs : List V} (F : FnOk X.prog X.w X.K X.mg X.base CX k f fd ps sp) (hr : Room (k + 1) X.A) (hb : Binds X.K fd ps [])
    (hx : Passes CX X E) (I : Inv X pins σ H s) (r : Vals vs us) (h : sp vs H Q E) : wpAny (model X.prog X.w) X.A.in1 (call (.ref f) us) (EP X pins σ Q) X.xe s := by
  have hl : us.length = ps.length := by rw [← r.length]; exact F.len _ _ _ _ h
  have hb' := hb s us I.kIn (by rw [List.append_nil]; exact hl)
  rw [List.append_nil] at hb'
  refine wpAny_call (codeAny_mono (F.run X.A.in1 X.stack s H ⟨us, []⟩ us vs Q E hr.in1 I.env0.in1 hb' r h) fun r s' hq => ?_)
  cases r with
  | error e => exact hx pins σ H s e s' I hq
  | ok fl =>
    cases fl with
    | ret u => exact I.after hq
    | next => exact False.elim hq
    | brk => exact False.elim hq
    | cont => exact False.elim hq
def tGetC (C : Addr) (sp : Sp) (to ti : TE) : TE := fun σ H Q => to σ H fun x H1 => ti σ H1 fun y H2 => ∃ a dx fs, x = .ref a ∧ H2 a = some (.ins C dx fs) ∧ sp [x, y] H2 Q E0
theorem pe_getC (c : CalG X.prog X.w X.K X.mg X.base C "__getitem__" k sp) (hr : Room (k + 1) X.A) (ho : PE X o to) (hi : PE X i ti)
    (hsl : ∀ a y, subscripted i true (.ref a) y = runValue (.builtin "lifetime.subscript" ⟨[.ref a, y], []⟩) := by intro _ _; with_unfolding_all rfl) : PE X (.Subscript o i pos) (tGetC C sp to ti) := by
  obtain ⟨f, fd, ps, hs, hf, hfn, F, hb⟩ := c.ex
  refine ⟨fun pins s σ H Q I h => ?_⟩
  refine Subscript_ (thn (ho.run pins s σ H _ I h) fun v s1 ⟨x, H1, I1, rx, q1⟩ => thn (hi.run pins s1 σ H1 _ I1 q1) fun u s2 ⟨y, H2, I2, ry, a, dx, fs, ex, ea, q2⟩ => ?_)
  subst ex
  obtain rfl : v = Value.ref a := rx
  obtain ⟨mA, J, _⟩ := ins_get I2.hok ea
  obtain ⟨od, J, _⟩ := J.look
  obtain ⟨m, hF⟩ := I2.fr
  exact PySem.W.sub_K hF I2.ok.mod.kin J hs hfn hf (run_in1 (vs := [.ref a, y]) F hr hb pass0 I2 (.cons rfl (.cons ry .nil)) q2) (hsl a u)
theorem callWith_inst {M : Model} {A : Around} {E : Value → Shared → Prop} {s : Shared} {x : Addr} {first : List Value} {Q : Value → Shared → Prop} {args : List (Bool × Sem Value)} (hp : (args.any (·.1) || ([] : List (Option Str × Sem Value)).any (·.1.isNone)) = false)
    (h : wpAny M A (evalArgs (.ref x) true args []) (fun a s1 => (∃ ox, s1.heap.get? x = some ox ∧ ox.data = .plain) ∧ wpAny M A (call (.ref x) (first ++ a.pos) a.kw) Q E s1) E s) : wpAny M A (callWith pos (.ref x) first args []) Q E s := by
  unfold callWith
  refine wpAny_bind (wpAny_holding (wpAny_mono h (fun a s1 h1 => wpAny_bind (wpAny_standAt ?_)) fun _ _ y => y))
  obtain ⟨⟨ox, e1, e2⟩, hc⟩ := h1
  have kp : PySem.W.Looks M s1.heap (keeperOf (.ref x)) .caller := by
    refine (PySem.W.Looks.ld (part := none) e1).andThen ?_
    simp only [e2]
    exact .now
  simp only [hp]
  refine wpAny_bind (kp.here ?_)
  exact wpAny_bind (wpAny_mono (wpAny_operateT hc) (fun r s2 hr => wpAny_bind (wpAny_holding (wpAny_point (wpAny_pure hr)))) fun _ _ y => y)
def tCallC (C : Addr) (sp : Sp) (to : TE) (t : TA) : TE := fun σ H Q => to σ H fun x H1 => ∃ a dx fs, x = .ref a ∧ H1 a = some (.ins C dx fs) ∧ t σ H1 fun vs H2 => ∃ dx' fs', H2 a = some (.ins C dx' fs') ∧ sp (x :: vs) H2 Q E0
theorem pe_callC {es : List Expr} {t : TA} (c : CalG X.prog X.w X.K X.mg X.base C "__call__" k sp) (hr : Room k X.A) (ho : PE X o to) (ha : PA X (e :: es) t) (hst : starEach (e :: es) X.env = (false, eval e X.env) :: starEach es X.env := by rfl) (hpl : (backTo pos (starEach es X.env)).any (·.1) = false := by rfl)
    (hc : eval (.Call o (e :: es) [] pos) X.env = (do
      let f ← eval o X.env
      callWith pos f [] (backTo pos (starEach (e :: es) X.env)) (backToKw pos (keywordEach [] X.env))) := by rfl) :
    PE X (.Call o (e :: es) [] pos) (tCallC C sp to t) := by
  obtain ⟨f, fd, ps, hs, hf, hfn, F, hb⟩ := c.ex
  refine ⟨fun pins s σ H Q I h => ?_⟩
  refine Call_ (thn (ho.run pins s σ H _ I h) fun v s1 ⟨x, H1, I1, rx, a, dx, fs, ex, ea, q1⟩ => ?_) hc
  subst ex
  obtain rfl : v = Value.ref a := rx
  obtain ⟨mA, J, _⟩ := ins_get I1.hok ea
  obtain ⟨od, J, _⟩ := J.look
  refine callWith_inst (by rw [hst]; show ((false || (backTo pos (starEach es X.env)).any (·.1)) || false) = false; rw [hpl]; rfl) ?_
  have go := ha.run pos pins s1 σ H1 _ I1 q1
  rw [hst] at go ⊢
  refine Calls.evalArgs_plain (thn go fun us s2 ⟨vs, H2, I2, rv, dx', fs', ea', q2⟩ => ?_)
  obtain ⟨mA', J', _⟩ := ins_get I2.hok ea'
  have hat := J'.obj
  obtain ⟨od', J', _⟩ := J'.look
  refine ⟨⟨_, hat, rfl⟩, wpAny_call (PySem.W.kco_code (a := ⟨us, []⟩) I2.kIn J' rfl hs hf hfn ?_)⟩
  exact run_code F hr hb pass0 I2 (us := .ref a :: us) (vs := .ref a :: vs) (.cons rfl rv) q2
end
end OpX

set_option Elab.async false
set_option linter.all false
set_option maxRecDepth 100000
set_option maxHeartbeats 1000000
namespace Ow
open PySem PySem.Spec PyProof.Rows L2
/-! ### the value of a list of pairs -/
def ev : Ps → (Str → Int) → Int
  | [], _ => 0
  | (x, n) :: r, v => n * v x + ev r v
def offs (a : Ps) (x : Str) : Ps := a.filter fun q => decide (q.1 ≠ x)
theorem offs_cons_eq (q : Str × Int) (a : Ps) (x : Str) (e : q.1 = x) : offs (q :: a) x = offs a x := by
  unfold offs
  rw [List.filter_cons, if_neg (by simp [e])]
theorem offs_cons_ne (q : Str × Int) (a : Ps) (x : Str) (e : q.1 ≠ x) : offs (q :: a) x = q :: offs a x := by
  unfold offs
  rw [List.filter_cons, if_pos (by simp [e])]
theorem ev_app (v : Str → Int) : ∀ a b : Ps, ev (a ++ b) v = ev a v + ev b v
  | [], b => (Int.zero_add _).symm
  | (x, n) :: a, b => by
    show n * v x + ev (a ++ b) v = n * v x + ev a v + ev b v
    rw [ev_app v a b, Int.add_assoc]
theorem ev_mul (v : Str → Int) (k : Int) : ∀ a : Ps, ev (a.map fun q => (q.1, k * q.2)) v = k * ev a v
  | [] => (Int.mul_zero k).symm
  | (x, n) :: a => by
    show k * n * v x + ev (a.map fun q => (q.1, k * q.2)) v = k * (n * v x + ev a v)
    rw [ev_mul v k a, Int.mul_add, Int.mul_assoc]
theorem ev_split (v : Str → Int) (x : Str) : ∀ a : Ps, ev a v = co a x * v x + ev (offs a x) v
  | [] => by
    show (0 : Int) = 0 * v x + 0
    omega
  | (y, n) :: a => by
    have ih := ev_split v x a
    show n * v y + ev a v = ((if y = x then n else 0) + co a x) * v x + ev (offs ((y, n) :: a) x) v
    rw [ih, Int.add_mul]
    by_cases e : y = x
    · rw [offs_cons_eq (y, n) a x e, if_pos e, e]
      omega
    · rw [offs_cons_ne (y, n) a x e, if_neg e, Int.zero_mul]
      show _ = 0 + co a x * v x + (n * v y + ev (offs a x) v)
      omega
theorem co_offs (x s : Str) : ∀ a : Ps, co (offs a x) s = if s = x then 0 else co a s
  | [] => by
    show (0 : Int) = _
    split <;> rfl
  | (y, n) :: a => by
    have ih := co_offs x s a
    show _ = if s = x then 0 else (if y = s then n else 0) + co a s
    by_cases e : y = x
    · rw [offs_cons_eq (y, n) a x e, ih]
      by_cases e2 : s = x
      · rw [if_pos e2, if_pos e2]
      · rw [if_neg e2, if_neg e2, if_neg (fun z : y = s => e2 (z.symm.trans e)), Int.zero_add]
    · rw [offs_cons_ne (y, n) a x e]
      show (if y = s then n else 0) + co (offs a x) s = _
      rw [ih]
      by_cases e2 : s = x
      · rw [if_pos e2, if_pos e2, if_neg (fun z => e (z.trans e2))]
        rfl
      · rw [if_neg e2, if_neg e2]
theorem ev_zero (v : Str → Int) : ∀ (n : Nat) (a : Ps), a.length ≤ n → (∀ s, co a s = 0) → ev a v = 0
  | _, [], _, _ => rfl
  | 0, _ :: _, h, _ => absurd h (by simp)
  | n + 1, (x, k) :: a, h, z => by
    rw [ev_split v x ((x, k) :: a), z x, Int.zero_mul, Int.zero_add, offs_cons_eq (x, k) a x rfl]
    refine ev_zero v n _ (Nat.le_trans (List.length_filter_le _ _) (by simpa using h)) fun s => ?_
    rw [co_offs]
    by_cases e : s = x
    · rw [if_pos e]
    · rw [if_neg e]
      have := z s
      show co a s = 0
      have e3 : co ((x, k) :: a) s = (if x = s then k else 0) + co a s := rfl
      rw [e3, if_neg (fun q => e q.symm), Int.zero_add] at this
      exact this
theorem ev_co {a b : Ps} (v : Str → Int) (h : ∀ s, co a s = co b s) : ev a v = ev b v := by
  have z := ev_zero v _ (a ++ b.map fun q => (q.1, -1 * q.2)) (Nat.le_refl _) fun s => by
    rw [co_append, co_mulL, h s]
    omega
  rw [ev_app, ev_mul] at z
  omega
theorem ev_congr {v v' : Str → Int} : ∀ {a : Ps}, (∀ q ∈ a, v q.1 = v' q.1) → ev a v = ev a v'
  | [], _ => rfl
  | (x, n) :: a, h => by
    show n * v x + ev a v = n * v' x + ev a v'
    rw [h (x, n) List.mem_cons_self, ev_congr fun q hq => h q (List.mem_cons_of_mem _ hq)]
theorem ev_snoc (v : Str → Int) (a : Ps) (q : Str × Int) : ev (a ++ [q]) v = ev a v + q.2 * v q.1 := by
  rw [ev_app]
  show ev a v + (q.2 * v q.1 + 0) = _
  omega
theorem ev_sum (v : Str → Int) : ∀ a : Ps, (a.map fun q => q.2 * v q.1).sum = ev a v
  | [] => rfl
  | (x, n) :: a => by
    rw [List.map_cons, List.sum_cons, ev_sum v a]
    rfl
/-- a coefficient changed at x -/
theorem ev_at {a : Ps} {v : Str → Int} {x : Str} {z : Int} : ev a (fun s => if s = x then z else v s) = co a x * z + ev (offs a x) v := by
  rw [ev_split _ x a]
  show co a x * (if x = x then z else v x) + _ = _
  rw [if_pos rfl]
  congr 1
  refine ev_congr fun q hq => ?_
  have := of_decide_eq_true (List.mem_filter.mp hq).2
  show (if q.1 = x then z else v q.1) = v q.1
  rw [if_neg this]
theorem offs_snoc (a : Ps) (q : Str × Int) (x : Str) : offs (a ++ [q]) x = offs a x ++ if q.1 = x then [] else [q] := by
  unfold offs
  rw [List.filter_append]
  congr 1
  by_cases e : q.1 = x
  · rw [if_pos e]
    simp [e]
  · rw [if_neg e]
    simp [e]
theorem ix_tupK {X : Cx} {K : PySem.W.Frag} (hK : X.K = K) : IxR X (rIxT K) := by
  subst hK
  exact ix_tup
def spGet (C : Addr) : Sp := fun vs H Q _ => ∃ (p : Addr) (c : Int) (m : Ps) (x : Str), vs = [.ref p, .str x] ∧ FormAt C H p c m ∧ Q (.int (co m x)) H
def spCall (C : Addr) : Sp := fun vs H Q _ => ∃ (p d : Addr) (c : Int) (m M : Ps), vs = [.ref p, .ref d] ∧ FormAt C H p c m ∧ DictAt H d M ∧ m.length < 64 ∧ (∀ s, MulOk (co m s) (co M s)) ∧ ∀ H', Same H H' → Q (.int (c + ev m (co M))) H'
def spPut (C : Addr) : Sp := fun vs H Q _ => ∃ (p o : Addr) (c c2 : Int) (m m2 : Ps) (x : Str), vs = [.ref p, .str x, .ref o] ∧ FormAt C H p c m ∧ FormAt C H o c2 m2 ∧ m.length < 15 ∧ m2.length < 15 ∧ MulOk c2 (co m x) ∧ (∀ q ∈ m2, MulOk q.2 (co m x)) ∧
  OutF C H Q (c + c2 * co m x) (fun s => (if s = x then 0 else co m s) + co m2 s * co m x) (m.length + m2.length)
def spValues : Sp := fun vs H Q _ => ∃ (b l : Addr) (n : Nat) (ys : List Str), vs = [.ref b, .ref l] ∧ BagAt H b n ∧ n < 700000000 ∧ H l = some (.lst (ys.map V.str)) ∧ l ≠ b ∧ (∀ y ∈ ys, isSym y = true) ∧ ys.length < 64 ∧
  ∀ d M H', H d = none → d ≠ b → DictAt H' d M → M.length < 80 → (∀ q ∈ M, q.2.natAbs ≤ 10 ^ 25) → BagAt H' b (n + 2000) → Stay b H H' → Q (.ref d) H'
def spValue : Sp := fun vs H Q _ => ∃ (c : Int) (a d : Addr) (m M : Ps), vs = [.int c, .ref a, .ref d] ∧ a ≠ d ∧ DictAt H a m ∧ DictAt H d M ∧ (∀ s, MulOk (co m s) (co M s)) ∧ ∀ H', Same H H' → Q (.int (c + ev m (co M))) H'
end Ow
namespace Ow
open PySem PySem.Spec PyProof.Rows L2
theorem putS_vals {s : Str} {v : Int} : ∀ {m : Ps}, ∀ q ∈ putS m s v, q ∈ m ∨ q.2 = v
  | [], q, hq => by
    cases List.mem_singleton.mp hq
    exact .inr rfl
  | (x, u) :: r, q, hq => by
    unfold putS at hq
    by_cases e : x = s
    · rw [if_pos e] at hq
      rcases List.mem_cons.mp hq with rfl | hq
      · exact .inr rfl
      · exact .inl (List.mem_cons_of_mem _ hq)
    · rw [if_neg e] at hq
      rcases List.mem_cons.mp hq with rfl | hq
      · exact .inl List.mem_cons_self
      · rcases putS_vals q hq with h | h
        · exact .inl (List.mem_cons_of_mem _ h)
        · exact .inr h
theorem kvI_none : ∀ {m : Ps} {s : Str}, s ∉ m.map (·.1) → valV (kvI m) (Sum.inr s) = none
  | [], _, _ => rfl
  | (x, v) :: m, s, h => by
    have h1 : ¬ x = s := fun e => h (by simp [e])
    have h2 := kvI_none (m := m) (s := s) fun e => h (by rw [List.map_cons]; exact List.mem_cons_of_mem _ e)
    unfold valV kvI at h2 ⊢
    rw [List.map_cons]
    simp [h1]
    simpa using h2
theorem kvI_getD (m : Ps) (s : Str) (z : Int) (nd : (m.map (·.1)).Nodup) : ∃ u : Int, (valV (kvI m) (Sum.inr s)).getD (V.int z) = V.int u ∧ (u = z ∨ (s, u) ∈ m) := by
  by_cases h : s ∈ m.map (·.1)
  · obtain ⟨q, hq, rfl⟩ := List.mem_map.mp h
    refine ⟨co m q.1, by rw [kvI_get nd h]; rfl, .inr ?_⟩
    rw [co_in nd hq]
    exact hq
  · exact ⟨z, by rw [kvI_none h]; rfl, .inl rfl⟩
theorem DictAt.stay {H H' : Hp} {b d : Addr} {m : Ps} (h : DictAt H d m) (s : Stay b H H') (ne : d ≠ b) : DictAt H' d m := ⟨s _ _ ne h.at_, h.nd, h.sym⟩
end Ow
namespace Ow
open PySem PySem.Spec PyProof.Rows L2
theorem seq_cutS {a b : TS} {D : Ends} {σ : L2.St} {H : Hp} (R : L2.St → Hp → Prop) (fin : ∀ σ' H', R σ' H' → b D σ' H') (main : (∀ σ' H', R σ' H' → b D σ' H') → tSeq a b D σ H) : tSeq a b D σ H := main fin
theorem ne_ref {H : Hp} {a b : Addr} {o : HO} (h : H a = some o) (n : H b = none) : a ≠ b := fun z => by rw [z, n] at h; cases h
theorem offs_nd {m : Ps} (x : Str) (h : (m.map (·.1)).Nodup) : ((offs m x).map (·.1)).Nodup := h.sublist (List.filter_sublist.map _)
theorem offs_take {m : Ps} {i : Nat} {x : Str} {q : Str × Int} (h : m[i]? = some q) : offs (m.take (i + 1)) x = offs (m.take i) x ++ if q.1 = x then [] else [q] := by
  rw [take_snoc h, offs_snoc]
theorem offs_len (m : Ps) (x : Str) : (offs m x).length ≤ m.length := List.length_filter_le _ _
end Ow
namespace Ow
open PySem PySem.Spec PyProof.Rows L2
theorem co_mem_bound {m : Ps} {B : Nat} (nd : (m.map (·.1)).Nodup) (h : ∀ q ∈ m, q.2.natAbs ≤ B) (s : Str) : (co m s).natAbs ≤ B := by
  by_cases e : s ∈ m.map (·.1)
  · obtain ⟨q, hq, rfl⟩ := List.mem_map.mp e
    rw [co_in nd hq]
    exact h q hq
  · rw [co_out e]
    exact Nat.zero_le _
theorem ev_bound {v : Str → Int} {A B : Nat} (hv : ∀ s, (v s).natAbs ≤ B) : ∀ {m : Ps}, (∀ q ∈ m, q.2.natAbs ≤ A) → (ev m v).natAbs ≤ m.length * (A * B)
  | [], _ => Nat.zero_le _
  | (x, n) :: m, h => by
    have h1 := ev_bound hv (m := m) fun q hq => h q (List.mem_cons_of_mem _ hq)
    have h2 : (n * v x).natAbs ≤ A * B := by
      rw [Int.natAbs_mul]
      exact Nat.mul_le_mul (h (x, n) List.mem_cons_self) (hv x)
    have h3 := Int.natAbs_add_le (n * v x) (ev m v)
    show (n * v x + ev m v).natAbs ≤ (m.length + 1) * (A * B)
    rw [Nat.add_mul, Nat.one_mul]
    omega
theorem put_value {M1 M2 mT I : Ps} {V : Str → Int} {x : Str} {n1 n2 zz : Int} (hT : ∀ s, co mT s = (if s = x then 0 else co M1 s) + co M2 s * co M1 x) (hI : ∀ s, co I s = if s = x then zz else V s) (hz : zz = n2 + ev M2 V) :
    n1 + n2 * co M1 x + ev mT V = n1 + ev M1 (co I) := by
  have e1 : ev M1 (co I) = co M1 x * zz + ev (offs M1 x) V := by
    rw [show co I = fun s => if s = x then zz else V s from funext hI]
    exact ev_at
  have e2 : ev mT V = ev (offs M1 x) V + co M1 x * ev M2 V := by
    rw [← ev_mul, ← ev_app]
    refine ev_co V fun s => ?_
    rw [hT, co_append, co_mulL, co_offs, Int.mul_comm (co M2 s)]
  rw [e1, e2, hz, Int.mul_add, Int.mul_comm n2]
  omega
theorem mul_bound {a b : Int} {A B : Nat} (ha : a.natAbs ≤ A) (hb : b.natAbs ≤ B) : (a * b).natAbs ≤ A * B := by
  rw [Int.natAbs_mul]
  exact Nat.mul_le_mul ha hb
end Ow

set_option Elab.async false
set_option linter.all false
set_option maxRecDepth 100000
set_option maxHeartbeats 1000000
namespace OpX
open PySem PySem.Spec PyProof.Rows L2
/-- what may stand at the right of == of an instance of C -/
def EqY (C : Addr) (H : Hp) (y : V) : Prop := (∃ i, y = .int i) ∨ (∃ z, y = .str z) ∨ (∃ a dx fs, y = .ref a ∧ H a = some (.ins C dx fs)) ∨ ∃ a xs, y = .ref a ∧ H a = some (.tup xs)
structure EqC (K : PySem.W.Frag) (C : Addr) (f : Addr) : Prop where
  at_ : PySem.W.findIn K (.ref C) "__eq__" = some (some (.ref f))
  fn : PySem.W.isFn K (.ref f) = true
  nI : PySem.W.subIn K (.type "int") (.ref C) = some false
  nS : PySem.W.subIn K (.type "str") (.ref C) = some false
  nT : PySem.W.subIn K (.type "tuple") (.ref C) = some false
structure CalE (P : Program) (w : World) (K : PySem.W.Frag) (mg : Str → Option Value) (base : Heap) (C : Addr) (k : Nat) (sp : Sp) : Prop where
  ex : ∃ (f : Addr) (fd : FuncData) (ps : List Str), EqC K C f ∧ FnOk P w K mg base CX0 k f fd ps sp ∧ Binds K fd ps []
def rEqC (C : Addr) (sp : Sp) : R2 := fun x y H Q => ∃ a dx fs, x = .ref a ∧ H a = some (.ins C dx fs) ∧ EqY C H y ∧ sp [x, y] H Q E0
section
variable {X : Cx} {k : Nat} {sp : Sp} {C : Addr}
theorem eqY_ty {pins : List (Addr × Obj)} {σ : L2.St} {H : Hp} {s : Shared} {f : Addr} {y : V} {v : Value} (O : EqC X.K C f) (I : Inv X pins σ H s) (ry : RelV y v) (h : EqY C H y) :
    ∃ tb, PySem.W.Looks (model X.prog X.w) s.heap (typeOf v) tb ∧ PySem.W.notFirst X.K C tb = true := by
  rcases h with ⟨i, rfl⟩ | ⟨z, rfl⟩ | ⟨a, dx, fs, rfl, ha⟩ | ⟨a, xs, rfl, ha⟩
  · obtain ⟨t, rfl⟩ := (show ∃ t, v = Value.int i t from ry)
    exact ⟨.type "int", PySem.W.Looks.of_pure rfl, by unfold PySem.W.notFirst; rw [O.nI]; simp⟩
  · obtain ⟨t, rfl⟩ := (show ∃ t, v = Value.str z t from ry)
    exact ⟨.type "str", PySem.W.Looks.of_pure rfl, by unfold PySem.W.notFirst; rw [O.nS]; simp⟩
  · obtain rfl : v = Value.ref a := ry
    obtain ⟨mB, J, _⟩ := ins_get I.hok ha
    obtain ⟨od, J, _⟩ := J.look
    exact ⟨.ref C, J.type, by unfold PySem.W.notFirst; simp⟩
  · obtain rfl : v = Value.ref a := ry
    obtain ⟨its, rv, ⟨o, ho, hc, n, hd⟩, _⟩ := I.tuple (SqT.of ha)
    refine ⟨.type "tuple", ?_, by unfold PySem.W.notFirst; rw [O.nT]; simp⟩
    have := (PySem.W.Looks.ld (M := model X.prog X.w) (part := none) ho).andThen (f := fun o => pure o.cls) .now
    rw [hc] at this
    exact this
theorem op_eqC (c : CalE X.prog X.w X.K X.mg X.base C k sp) (hr : Room k X.A) : OpR X (compareOp .Eq) (rEqC C sp) := by
  intro pins s σ H x y v u Q I rx ry h
  obtain ⟨f, fd, ps, O, F, hb⟩ := c.ex
  obtain ⟨a, dx, fs, rfl, ha, hy, hsp⟩ := h
  obtain rfl : v = Value.ref a := rx
  obtain ⟨mA, J, _⟩ := ins_get I.hok ha
  obtain ⟨od, J, _⟩ := J.look
  obtain ⟨m, hF⟩ := I.fr
  obtain ⟨tb, ht, hn⟩ := eqY_ty O I ry hy
  show wpAny (model X.prog X.w) X.A (richCompare .Eq (.ref a) u) (EP X pins σ Q) X.xe s
  refine PySem.W.cmp_K (op := .Eq) (tb := tb) hr.units0 hF I.ok.mod.kin J ht hn O.at_ O.fn ?_
  refine thn (run_fn (Q := Q) (us := [.ref a, u]) (vs := [.ref a, y]) F hr hb .nil pass0 I (.cons rfl (.cons ry .nil)) (by rw [List.append_nil]; exact hsp)) fun w' s' hh => ?_
  obtain ⟨z, H', I', rz, q⟩ := hh
  exact back rz ⟨z, H', I', rz, q⟩
end
end OpX

set_option Elab.async false
set_option linter.all false
set_option maxRecDepth 100000
set_option maxHeartbeats 1000000
namespace OpX
open PySem PySem.Spec PyProof.Rows L2
/-- what != of an instance without an own __ne__ needs beside its __eq__ -/
structure NeC (K : PySem.W.Frag) (C : Addr) : Prop where
  at_ : PySem.W.findIn K (.ref C) "__ne__" = some (some (.builtin "object.__ne__"))
  obj : PySem.W.mroIn K C (.type "object") = some true
section
variable {prog : Program} {w : World} {A : Around} {E : Value → Shared → Prop} {s : Shared} {K : PySem.W.Frag} {x C f : Addr} {ox od : Obj} {b : Value}
open Builtin in
theorem ne_body (KX : K.In s.heap) (I : PySem.W.InstAt s.heap x ox C od) (O : EqC K C f) (hu : A.units < cLine) {Q : Fin → Shared → Prop}
    (h : wpAny (model prog w) A (call (.ref f) [.ref x, b]) (fun v s' => ∃ r, v = .bool r ∧ Q (.done (.ret (.bool (!r)))) s') E s) :
    wpAny (model prog w) A (Builtin.«object.__ne__» ⟨[.ref x, b], []⟩) Q E s := by
  have one : wpAny (model prog w) A (callSpecialIfBound? (.ref x) (Str.ofString "__eq__") [b]) (fun v s' => ∃ r, v = some (.bool r) ∧ Q (.done (.ret (.bool (!r)))) s') E s :=
    PySem.W.ifBound_K KX I O.at_ O.fn (wpAny_mono h (fun v s' hv => by
      obtain ⟨r, rfl, q⟩ := hv
      exact ⟨r, rfl, q⟩) fun _ _ e => e)
  unfold Builtin.«object.__ne__»
  obtain ⟨hh, g, d, tt, os⟩ := s
  repeat (first
    | with_reducible refine wpAny_cRoomFor hu ?_
    | (refine wpAny_bind (m := callSpecialIfBound? (.ref x) (Str.ofString "__eq__") [b]) (wpAny_mono one (fun r s' hr => by
        obtain ⟨r, rfl, hq⟩ := hr
        repeat (first | exact hq | exact wpAny_pure hq | exact wpAny_truthy_bool hq | (refine wpAny_bind (m := truthy (.bool _)) (wpAny_truthy_bool ?_)) | wp_step)) fun _ _ e => e))
    | wp_step)
theorem ne_check (KX : K.In s.heap) (I : PySem.W.InstAt s.heap x ox C od) (N : NeC K C) {Q : Unit → Shared → Prop} (hq : Q () s) : wpAny (model prog w) A (checkBuiltinCall "object.__ne__" ⟨[.ref x, b], []⟩) Q E s := by
  have ha := F.cmpArgs_ne (.ref x) b
  simp only [checkBuiltinCall, F.cmpKind_ne, F.cmpSplit_ne]
  obtain ⟨hh, g, d, tt, os⟩ := s
  have l1 : PySem.W.Looks (model prog w) hh (typeOf (.ref x)) (.ref C) := I.type
  have l2 : PySem.W.Looks (model prog w) hh (isSubtype (.ref C) (.type "object")) true := PySem.W.looks_mroIn KX N.obj
  refine wpAny_bind ?_
  unfold isInstance
  refine wpAny_bind (l1.at (l2.at ?_))
  simp only [Bool.not_true, Bool.false_eq_true, if_false]
  cases hsig : Manifest.signature? "object.__ne__" with
  | none => exact wpAny_pure hq
  | some sig =>
    simp only [argsOk, hsig] at ha
    have h2 : Bind.checkArgs "object.__ne__" sig ⟨[.ref x, b], []⟩ = pure () := ha
    show wpAny _ A (Bind.checkArgs "object.__ne__" sig ⟨[.ref x, b], []⟩) Q E _
    rw [h2]
    exact wpAny_pure hq
open PySem.W in
/-- the look for __ne__ ends at object's -/
theorem ne_bound {M : Model} {Q : Option Value → Shared → Prop} (KX : K.In s.heap) (I : InstAt s.heap x ox C od) (N : NeC K C) (h : wpAny M A (call (.builtin "object.__ne__") [.ref x, b]) (fun v => Q (some v)) E s) : wpAny M A (callSpecialIfBound? (.ref x) "__ne__" [b]) Q E s := by
  have S := F.slot_zip_ne
  simp only [callSpecialIfBound?, bindSpecialIfBound?]
  refine wpAny_holding (wpAny_bind (wpAny_bind (wpAny_bind (I.type.here ((looks_findIn KX N.at_).here ?_)))))
  simp only [S.bind]
  refine wpAny_bind (wpAny_askSetting (wpAny_ite ?_))
  have fin : wpAny M A (call (.builtin "object.__ne__") ([.ref x] ++ [b]) >>= fun v => pure (some v)) Q E s := wpAny_bind (wpAny_mono h (fun v s' h' => wpAny_pure h') fun _ _ h' => h')
  split
  · exact wpAny_bind (wpAny_pure (wpAny_pure fin))
  · exact wpAny_tryCatch (wpAny_bind (wpAny_pure (wpAny_pure fin)))
end
section
variable {X : Cx} {k : Nat} {sp : Sp} {C : Addr}
def rNeC (C : Addr) (sp : Sp) : R2 := fun x y H Q => ∃ a dx fs, x = .ref a ∧ H a = some (.ins C dx fs) ∧ EqY C H y ∧ sp [x, y] H (fun v H' => ∃ r, v = .bl r ∧ Q (.bl (!r)) H') E0
theorem op_neC (c : CalE X.prog X.w X.K X.mg X.base C k sp) (N : NeC X.K C) (hr : Room (k + 1) X.A) : OpR X (compareOp .NotEq) (rNeC C sp) := by
  intro pins s σ H x y v u Q I rx ry h
  obtain ⟨f, fd, ps, O, F, hb⟩ := c.ex
  obtain ⟨a, dx, fs, rfl, ha, hy, hsp⟩ := h
  obtain rfl : v = Value.ref a := rx
  obtain ⟨mA, J, _⟩ := ins_get I.hok ha
  obtain ⟨od, J, _⟩ := J.look
  obtain ⟨tb, ht, hn⟩ := eqY_ty O I ry hy
  show wpAny (model X.prog X.w) X.A (richCompare .NotEq (.ref a) u) (EP X pins σ Q) X.xe s
  have call1 : wpAny (model X.prog X.w) X.A.in1 (call (.ref f) [.ref a, u]) (fun v s' => ∃ r, v = .bool r ∧ EP X pins σ Q (.bool (!r)) s') X.xe s := by
    refine thn (run_in1 (us := [.ref a, u]) (vs := [.ref a, y]) F hr hb pass0 I (.cons rfl (.cons ry .nil)) hsp) fun w' s' hh => ?_
    obtain ⟨z, H', I', rz, r, rfl, q⟩ := hh
    cases rz
    exact ⟨r, rfl, .bl (!r), H', I', rfl, q⟩
  have one : wpAny (model X.prog X.w) X.A (tryCompare (.ref a) "__ne__" u) (fun r s' => ∃ v, r = some v ∧ EP X pins σ Q v s') X.xe s := by
    unfold tryCompare
    refine wpAny_bind (ne_bound I.kIn J N (wpAny_call (codeAny_call_builtin PySem.F.slot_zip_ne.plain PySem.F.cmpEntry_ne (ne_check I.kIn J N ?_))))
    refine ne_body (A := X.A.in1) I.kIn J O (by have := hr.un; show X.A.units + 1 < _; omega) (wpAny_mono call1 (fun v s' hv => ?_) fun _ _ e => e)
    obtain ⟨r, rfl, q⟩ := hv
    refine ⟨r, rfl, ?_⟩
    first
    | exact wpAny_pure ⟨_, rfl, q⟩
    | exact ⟨_, rfl, q⟩
  unfold richCompare
  simp only [PySem.oneThing_ref]
  refine wpAny_holding (wpAny_bind (wpAny_cRoomFor hr.units0 ?_))
  refine wpAny_bind (J.type.here (wpAny_bind (ht.here ?_)))
  split
  · rename_i q
    have e : PySem.W.subIn X.K tb (.ref C) = some false := by
      rcases Bool.or_eq_true_iff.mp hn with e | e
      · rw [beq_iff_eq.mp e] at q
        simp at q
      · exact beq_iff_eq.mp e
    refine wpAny_bind ((PySem.W.looks_subIn I.kIn e).here ?_)
    simp only [Bool.false_eq_true, if_false]
    refine wpAny_bind (wpAny_mono one (fun r s' z => ?_) fun _ _ e => e)
    obtain ⟨v, rfl, hq⟩ := z
    exact wpAny_pure hq
  · refine wpAny_bind (wpAny_pure ?_)
    simp only [Bool.false_eq_true, if_false]
    refine wpAny_bind (wpAny_mono one (fun r s' z => ?_) fun _ _ e => e)
    obtain ⟨v, rfl, hq⟩ := z
    exact wpAny_pure hq
end
end OpX

set_option Elab.async false
set_option linter.all false
set_option maxRecDepth 100000
set_option maxHeartbeats 1000000
namespace OpX
open PySem PySem.Spec PyProof.Rows L2
section
variable {X : Cx} {k : Nat} {sp : Sp} {C : Addr} {o i e : Expr} {to ti te : TE} {pos : Pos}
/-- .. run two builtins deeper -/
theorem run_in2 {CX : CXT} {f : Addr} {fd : FuncData} {ps : List Str} {E : XK} {pins : List (Addr × Obj)} {σ : L2.St} {H : Hp} {s : Shared} {Q : VK} {us : List Value} {vs : List V} (F : FnOk X.prog X.w X.K X.mg X.base CX k f fd ps sp) (hr : Room (k + 1 + 1) X.A) (hb : Binds X.K fd ps [])
    (hx : Passes CX X E) (I : Inv X pins σ H s) (r : Vals vs us) (h : sp vs H Q E) : wpAny (model X.prog X.w) X.A.in1.in1 (call (.ref f) us) (EP X pins σ Q) X.xe s := by
  have hl : us.length = ps.length := by rw [← r.length]; exact F.len _ _ _ _ h
  have hb' := hb s us I.kIn (by rw [List.append_nil]; exact hl)
  rw [List.append_nil] at hb'
  refine wpAny_call (codeAny_mono (F.run X.A.in1.in1 X.stack s H ⟨us, []⟩ us vs Q E hr.in1.in1 I.env0.in1.in1 hb' r h) fun r s' hq => ?_)
  cases r with
  | error e => exact hx pins σ H s e s' I hq
  | ok fl =>
    cases fl with
    | ret u => exact I.after hq
    | next => exact False.elim hq
    | brk => exact False.elim hq
    | cont => exact False.elim hq
/-- str(o) of a class with an own __str__ -/
theorem call_strC (c : CalG X.prog X.w X.K X.mg X.base C "__str__" k sp) (hr : Room (k + 1 + 1) X.A) : CallR X (.type "str") (fun xs H Q => ∃ a dx fs, xs = [.ref a] ∧ H a = some (.ins C dx fs) ∧ sp [.ref a] H (fun v H' => ∃ z, v = .str z ∧ Q v H') E0) := by
  intro pins s σ H xs us Q I r h
  obtain ⟨f, fd, ps, hs, hf, hfn, F, hb⟩ := c.ex
  obtain ⟨a, dx, fs, rfl, ha, hsp⟩ := h
  obtain ⟨u, rfl, rx⟩ := vals1 r
  obtain rfl : u = Value.ref a := rx
  obtain ⟨mA, J, _⟩ := ins_get I.hok ha
  obtain ⟨od, J, _⟩ := J.look
  refine PySem.W.kso_call (hr.in1.in1.units0) I.kIn J hs hf (thn (run_in2 F hr hb pass0 I (us := [.ref a]) (vs := [.ref a]) (.cons rfl .nil) hsp) fun v s' z => ?_)
  obtain ⟨x, H', I', rx, zz, rfl, q⟩ := z
  obtain ⟨t, rfl⟩ := (show ∃ t, v = Value.str zz t from rx)
  exact ⟨.str zz, H', I', ⟨t, rfl⟩, q⟩
/-- xs[::-1] of a list -/
def tRevL (K : PySem.W.Frag) (te : TE) (tk : TO) : TE := fun σ H Q => te σ H fun x H1 => tk σ H1 fun l H2 => l = some (-1) ∧ ∃ a xs, x = .ref a ∧ SqL K H2 a xs ∧ ∀ p, H2 p = none → Q (.ref p) (upd H2 p (.lst xs.reverse))
theorem pe_rev {st : Option Expr} {tk : TO} {p2 : Pos} (he : PE X e te) (hk : PO X st tk) (hs : ∀ a sl, subscripted (.Slice none none st p2) false (.ref a) (.ref sl) = operate [.ref a, .ref sl] (getItem (.ref a) (.ref sl)) := by intro _ _; with_unfolding_all rfl) : PE X (.Subscript e (.Slice none none st p2) pos) (tRevL X.K te tk) := by
  refine ⟨fun pins s σ H Q I h => ?_⟩
  refine Subscript_ (thn (he.run pins s σ H _ I h) fun v s1 ⟨x, H1, I1, r1, q1⟩ => ?_)
  refine wpAny_Slice ?_
  rw [evalPart_none]
  refine wpAny_pure (wpAny_pure ?_)
  refine thn (hk.run pins s1 σ H1 _ I1 q1) fun vk s2 ⟨l, H2, I2, pk, el, a, xs, ex, hx, q2⟩ => ?_
  subst el ex
  obtain rfl : v = Value.ref a := r1
  have I4 : Inv X pins σ H2 { s2 with heap := s2.heap.push { cls := .type "slice", data := .fields #[.none, .none, vk] } } := I2.kept (t' := s2.toks) fun b ob q => Heap.get?_push_of_some _ q
  obtain ⟨its, r, ht, hz⟩ := I4.list hx
  refine tail_any (ops := [.ref a, .ref s2.heap.objs.size]) ht.isList.typeIs slot_list_getitem.lookup ?_ (hs _ _)
  refine wpAny_getItem_list_slice ht.isList (Heap.IsSliceOf.new ..) .none .none pk (by simp) ?_ (by rw [List.size_toArray]; have := r.length; omega)
  rw [PySem.W.krv_pick]
  refine ⟨.ref _, _, I4.laid (t' := s2.toks) (o := .lst xs.reverse) (fun b ob q => Heap.get?_push_of_some _ q) (Nat.le_refl _) ?_, rfl, q2 _ (I4.hok.fresh (Nat.le_refl _))⟩
  refine ⟨by rw [List.length_reverse]; exact hz, _, 0, r.reverse, Heap.get?_push_size _ rfl⟩
end
end OpX

set_option Elab.async false
set_option linter.all false
set_option maxRecDepth 100000
set_option maxHeartbeats 1000000
namespace OpX
open PySem PySem.Spec PyProof.Rows L2
/-- int == an instance: int's own says NotImplemented -/
theorem int_eq_inst {prog : Program} {w : World} {A : Around} {E : Value → Shared → Prop} {s : Shared} {i : Int} {t : Tok} {b : Addr} {ob : Obj} {Q : Value → Shared → Prop} (h1 : s.heap.get? b = some ob) (h2 : ob.data = .plain) (hq : Q .notImplemented s) :
    wpAny (model prog w) A (call (.builtin "int.__eq__") [.int i t, .ref b]) Q E s := by
  refine GQ.call_here F.slot_int_eq rfl F.entry_int_eq (F.args_int_eq_2 _ _) ?_
  show wpAny _ _ (Builtin.Int.intBinary "__eq__" (fun x y => PySem.ret (.bool (x == y))) false ⟨[.int i t, .ref b], []⟩) _ _ _
  unfold Builtin.Int.intBinary
  refine wpAny_bind (wpAny_of_eq (a := (Value.int i t, [Value.ref b])) (by first | rfl | kernel_rfl) ?_)
  refine wpAny_bind (wpAny_of_eq (a := i) (by first | rfl | kernel_rfl) ?_)
  refine wpAny_bind (asInt_inst h1 h2 ?_)
  exact wpAny_bind (wpAny_rule (wpAny_pure hq))
section
variable {X : Cx} {k : Nat} {sp : Sp} {C : Addr}
def rEqRev (C : Addr) (sp : Sp) : R2 := fun x y H Q => ∃ i a dx fs, x = .int i ∧ y = .ref a ∧ H a = some (.ins C dx fs) ∧ sp [y, x] H Q E0
open PySem.W in
theorem op_eqRev (c : CalE X.prog X.w X.K X.mg X.base C k sp) (sb : PySem.W.subIn X.K (.ref C) (.type "int") = some false) (hr : Room k X.A) : OpR X (compareOp .Eq) (rEqRev C sp) := by
  intro pins s σ H x y v u Q I rx ry h
  obtain ⟨f, fd, ps, O, F, hb⟩ := c.ex
  obtain ⟨i, a, dx, fs, rfl, rfl, ha, hsp⟩ := h
  obtain rfl : u = Value.ref a := ry
  obtain ⟨t, rfl⟩ := (show ∃ t, v = Value.int i t from rx)
  obtain ⟨mA, J, _⟩ := ins_get I.hok ha
  have hat := J.obj
  obtain ⟨od, J, _⟩ := J.look
  have KX := I.kIn
  have hcall : wpAny (model X.prog X.w) X.A (call (.ref f) [.ref a, .int i t]) (PySem.W.CmpBack (EP X pins σ Q)) X.xe s := by
    refine thn (run_fn (Q := Q) (us := [.ref a, .int i t]) (vs := [.ref a, .int i]) F hr hb .nil pass0 I (.cons rfl (.cons rx .nil)) (by rw [List.append_nil]; exact hsp)) fun w' s' hh => ?_
    obtain ⟨z, H', I', rz, q⟩ := hh
    exact back rz ⟨z, H', I', rz, q⟩
  have one : wpAny (model X.prog X.w) X.A (tryCompare (.ref a) (cmpInfo .Eq).2.1 (.int i t)) (fun r s' => ∃ v, r = some v ∧ EP X pins σ Q v s') X.xe s := by
    unfold tryCompare
    refine wpAny_bind (ifBound_K KX J O.at_ O.fn (wpAny_mono hcall (fun v s' hv => ?_) fun _ _ e => e))
    cases v <;> first | exact hv.elim | exact wpAny_pure ⟨_, rfl, hv⟩
  have first : ∀ {Q' : Option Value → Shared → Prop}, Q' none s → wpAny (model X.prog X.w) X.A (tryCompare (.int i t) (cmpInfo .Eq).2.1 (.ref a)) Q' X.xe s := fun {Q'} q => by
    unfold tryCompare
    refine wpAny_bind (wpAny_callSpecialIfBound?_slot (T := "int") rfl PySem.F.slot_int_eq ?_)
    exact int_eq_inst hat rfl (wpAny_pure q)
  show wpAny (model X.prog X.w) X.A (richCompare .Eq (.int i t) (.ref a)) (EP X pins σ Q) X.xe s
  unfold richCompare
  refine wpAny_holding (wpAny_bind (wpAny_cRoomFor hr.units0 ?_))
  have L1 : Looks (model X.prog X.w) s.heap (typeOf (.ref a)) (.ref C) := J.type
  have L5 : Looks (model X.prog X.w) s.heap (isSubtype (.ref C) (.type "int")) false := looks_subIn KX sb
  have L0 : Looks (model X.prog X.w) s.heap (typeOf (.int i t)) (.type "int") := Looks.of_pure rfl
  have hne0 : (Value.type "int" == Value.ref C) = false := Bool.eq_false_iff.mpr fun q => by cases beq_iff_eq.mp q
  have hne : (Value.type "int" != Value.ref C) = true := by
    show (!(Value.type "int" == Value.ref C)) = true
    rw [hne0]
    rfl
  show wpAny _ _ (typeOf (.int i t) >>= fun ta => _) _ _ _
  refine wpAny_bind (L0.here (wpAny_bind (L1.here ?_)))
  rw [hne]
  simp only [if_true]
  refine wpAny_bind (L5.here ?_)
  simp only [Bool.false_eq_true, if_false]
  refine wpAny_bind (first ?_)
  dsimp only
  refine wpAny_bind (wpAny_mono one (fun r s' z => ?_) fun _ _ e => e)
  obtain ⟨v, rfl, hq⟩ := z
  exact wpAny_pure hq
end
/-- dicts of texts and ints compared -/
def rEqDI : R2 := fun x y H Q => ∃ a b m m2, x = .ref a ∧ y = .ref b ∧ H a = some (.dK (Ow.kvI m)) ∧ H b = some (.dK (Ow.kvI m2)) ∧ ∀ r : Bool, (r = true ↔ m.length = m2.length ∧ ∀ q ∈ m, valV (Ow.kvI m2) (Sum.inr q.1) = some (.int q.2)) → Q (.bl r) H
theorem kvI_int {k : Key} {v : V} : ∀ {m : Ow.Ps}, valV (Ow.kvI m) k = some v → ∃ i, v = .int i
  | [], h => by cases h
  | (x, n) :: m, h => by
    have h : valV (((Sum.inr x : Key), V.int n) :: Ow.kvI m) k = some v := h
    by_cases e : (Sum.inr x : Key) = k
    · rw [valV_pos e] at h
      cases h
      exact ⟨n, rfl⟩
    · rw [valV_neg e] at h
      exact kvI_int h
theorem hits_int {A : Around} {s : Shared} {m2 : Ow.Ps} {vb : List (Key × Value)} (rb : KV (Ow.kvI m2) vb) : ∀ {m : Ow.Ps} {va : List (Key × Value)}, KV (Ow.kvI m) va → ∃ r, PySem.W.KeqHits A s vb va r ∧ (r = true ↔ ∀ q ∈ m, valV (Ow.kvI m2) (Sum.inr q.1) = some (.int q.2))
  | [], va, ra => by
    cases ra
    exact ⟨true, .nil, by simp⟩
  | (x, n) :: m, va, ra => by
    have ra' : Paired (fun (p : Key × V) (q : Key × Value) => p.1 = q.1 ∧ RelV p.2 q.2) ((Sum.inr x, V.int n) :: Ow.kvI m) va := ra
    cases ra' with
    | @cons _ q _ qs h t =>
      obtain ⟨k, v⟩ := q
      obtain ⟨h1, h2⟩ := h
      obtain rfl : (Sum.inr x : Key) = k := h1
      obtain ⟨tt, rfl⟩ := (show ∃ tt, v = Value.int n tt from h2)
      obtain ⟨r, hr, hiff⟩ := hits_int (A := A) (s := s) rb (m := m) (va := qs) t
      have rr := rb.val (Sum.inr x)
      cases e : valV (Ow.kvI m2) (Sum.inr x) with
      | none =>
        rw [e] at rr
        refine ⟨false, .miss (by cases q : valueAt vb (Sum.inr x) with | none => rfl | some y => rw [q] at rr; exact rr.elim), ?_⟩
        constructor
        · intro z
          cases z
        · intro z
          have := z (x, n) List.mem_cons_self
          rw [e] at this
          cases this
      | some v2 =>
        obtain ⟨n2, rfl⟩ := kvI_int e
        rw [e] at rr
        obtain ⟨y, hy, ry⟩ := rr.some_of
        obtain ⟨t2, rfl⟩ := (show ∃ t2, y = Value.int n2 t2 from ry)
        refine ⟨(n == n2) && r, .hit hy (SeqAt.EqAt.int_int n tt n2 t2) hr, ?_⟩
        rw [Bool.and_eq_true, beq_iff_eq, hiff]
        constructor
        · rintro ⟨z1, z2⟩ q hq
          rcases List.mem_cons.mp hq with rfl | hq
          · rw [e, z1]
          · exact z2 q hq
        · intro z
          refine ⟨?_, fun q hq => z q (List.mem_cons_of_mem _ hq)⟩
          have := z (x, n) List.mem_cons_self
          rw [e] at this
          injection this with this
          injection this with this
          exact this.symm
theorem op_eq_dictI {X : Cx} (hu : X.A.units < cLine) : OpR X (compareOp .Eq) rEqDI := by
  intro pins s σ H x y v u Q I rx ry h
  obtain ⟨a, b, m, m2, rfl, rfl, ea, eb, q⟩ := h
  obtain rfl : v = Value.ref a := rx
  obtain rfl : u = Value.ref b := ry
  obtain ⟨_, ya, va, ra, da⟩ := (show ObjOk X.prog X.w H s.heap a (.dK (Ow.kvI m)) from I.hok a _ ea)
  obtain ⟨_, yb, vb, rb, db⟩ := (show ObjOk X.prog X.w H s.heap b (.dK (Ow.kvI m2)) from I.hok b _ eb)
  obtain ⟨r, hr, hiff⟩ := hits_int (A := X.A.in1) (s := s) rb ra
  have la : va.length = m.length := by rw [← ra.length, Ow.kvI_len]
  have lb : vb.length = m2.length := by rw [← rb.length, Ow.kvI_len]
  refine PySem.W.keq_eq (knd := mixKind X.prog X.w) (r := r) ya yb da db hu (fun _ => hr) (fin_bl I (q (decide (m.length = m2.length) && r) ?_) (by rw [la, lb]; rfl))
  rw [Bool.and_eq_true, decide_eq_true_iff, hiff]
end OpX

set_option Elab.async false
set_option linter.all false
set_option maxRecDepth 100000
set_option maxHeartbeats 1000000
namespace OpX
open PySem PySem.Spec PyProof.Rows L2
section
variable {X : Cx} {k : Nat} {sp : Sp} {C : Addr}
/-- x in o, by o's own __contains__ that answers True or False -/
def rInC (neg : Bool) (C : Addr) (sp : Sp) : R2 := fun x y H Q => ∃ a dx fs, y = .ref a ∧ H a = some (.ins C dx fs) ∧ sp [y, x] H (fun v H' => ∃ r, v = .bl r ∧ Q (.bl (if neg then !r else r)) H') E0
theorem run_inC {neg : Bool} (c : CalG X.prog X.w X.K X.mg X.base C "__contains__" k sp) (hr : Room k X.A) {pins : List (Addr × Obj)} {σ : L2.St} {H : Hp} {s : Shared} {Q : VK} {x : V} {u : Value} {a dx : Addr} {fs : List (Str × V)} (I : Inv X pins σ H s) (rx : RelV x u) (ha : H a = some (.ins C dx fs))
    (h : sp [.ref a, x] H (fun v H' => ∃ r, v = .bl r ∧ Q (.bl (if neg then !r else r)) H') E0) (f : Addr) (fd : FuncData) (ps : List Str) (F : FnOk X.prog X.w X.K X.mg X.base CX0 k f fd ps sp) (hb : Binds X.K fd ps []) :
    wpAny (model X.prog X.w) X.A (call (.ref f) [.ref a, u]) (fun r s' => wpAny (model X.prog X.w) X.A (truthy r) (fun b => EP X pins σ Q (.bool (if neg then !b else b))) X.xe s') X.xe s := by
  refine thn (run_fn (us := [.ref a, u]) (vs := [.ref a, x]) F hr hb .nil pass0 I (.cons rfl (.cons rx .nil)) (by rw [List.append_nil]; exact h)) fun w' s' hh => ?_
  obtain ⟨z, H', I', rz, r, rfl, q⟩ := hh
  obtain rfl : w' = Value.bool r := rz
  exact wpAny_truthy_bool ⟨.bl (if neg then !r else r), H', I', rfl, q⟩
theorem op_inC (c : CalG X.prog X.w X.K X.mg X.base C "__contains__" k sp) (hr : Room k X.A) : OpR X (compareOp .In) (rInC false C sp) := by
  intro pins s σ H x y v u Q I rx ry h
  obtain ⟨a, dx, fs, rfl, ha, hsp⟩ := h
  obtain rfl : u = Value.ref a := ry
  obtain ⟨f, fd, ps, hs, hf, hfn, F, hb⟩ := id c.ex
  obtain ⟨mA, J, _⟩ := ins_get I.hok ha
  obtain ⟨od, J, _⟩ := J.look
  obtain ⟨m, hF⟩ := I.fr
  exact PySem.W.in_K hF I.ok.mod.kin J hs hf (run_inC (neg := false) c hr I rx ha hsp f fd ps F hb)
theorem op_notInC (c : CalG X.prog X.w X.K X.mg X.base C "__contains__" k sp) (hr : Room k X.A) : OpR X (compareOp .NotIn) (rInC true C sp) := by
  intro pins s σ H x y v u Q I rx ry h
  obtain ⟨a, dx, fs, rfl, ha, hsp⟩ := h
  obtain rfl : u = Value.ref a := ry
  obtain ⟨f, fd, ps, hs, hf, hfn, F, hb⟩ := id c.ex
  obtain ⟨mA, J, _⟩ := ins_get I.hok ha
  obtain ⟨od, J, _⟩ := J.look
  obtain ⟨m, hF⟩ := I.fr
  exact PySem.W.notIn_K hF I.ok.mod.kin J hs hf (run_inC (neg := true) c hr I rx ha hsp f fd ps F hb)
end
end OpX

set_option Elab.async false
set_option linter.all false
set_option maxRecDepth 100000
set_option maxHeartbeats 1000000
namespace Ow
open PySem PySem.Spec PyProof.Rows L2
/-! ### dicts of texts -/
abbrev Ws := List (Str × Str)
def kvT (m : Ws) : List (Key × V) := m.map fun p => (Sum.inr p.1, V.str p.2)
def wo : Ws → Str → Str
  | [], _ => ""
  | (x, u) :: r, s => if x = s then u else wo r s
def putW : Ws → Str → Str → Ws
  | [], s, v => [(s, v)]
  | (x, u) :: r, s, v => if x = s then (x, v) :: r else (x, u) :: putW r s v
theorem kvT_len (m : Ws) : (kvT m).length = m.length := List.length_map _
theorem wo_in : ∀ {a : Ws} {q : Str × Str}, (a.map (·.1)).Nodup → q ∈ a → wo a q.1 = q.2
  | (x, v) :: r, q, hn, hq => by
    rw [List.map_cons, List.nodup_cons] at hn
    show (if x = q.1 then v else wo r q.1) = q.2
    rcases List.mem_cons.mp hq with rfl | hq
    · rw [if_pos rfl]
    · have : x ≠ q.1 := fun e => hn.1 (e ▸ List.mem_map.mpr ⟨q, hq, rfl⟩)
      rw [if_neg this, wo_in hn.2 hq]
theorem wo_mem : ∀ {a : Ws} {s : Str}, s ∈ a.map (·.1) → (s, wo a s) ∈ a
  | (x, v) :: r, s, h => by
    show (s, if x = s then v else wo r s) ∈ _
    by_cases e : x = s
    · subst e
      rw [if_pos rfl]
      exact List.mem_cons_self
    · rw [if_neg e]
      rw [List.map_cons, List.mem_cons] at h
      exact List.mem_cons_of_mem _ (wo_mem (h.resolve_left (Ne.symm e)))
theorem putW_keys : ∀ (m : Ws) (s : Str) (v : Str), (putW m s v).map (·.1) = m.map (·.1) ∨ (s ∉ m.map (·.1) ∧ (putW m s v).map (·.1) = m.map (·.1) ++ [s])
  | [], s, v => .inr ⟨by simp, rfl⟩
  | (x, u) :: r, s, v => by
    unfold putW
    by_cases e : x = s
    · rw [if_pos e]
      exact .inl rfl
    · rw [if_neg e]
      rcases putW_keys r s v with h | ⟨h1, h2⟩
      · exact .inl (by rw [List.map_cons, List.map_cons, h])
      · refine .inr ⟨?_, by rw [List.map_cons, List.map_cons, h2]; rfl⟩
        rw [List.map_cons, List.mem_cons, not_or]
        exact ⟨Ne.symm e, h1⟩
theorem putW_nodup {m : Ws} (s : Str) (v : Str) (h : (m.map (·.1)).Nodup) : ((putW m s v).map (·.1)).Nodup := by
  rcases putW_keys m s v with e | ⟨e1, e2⟩
  · rw [e]; exact h
  · rw [e2, List.nodup_append]
    refine ⟨h, by simp, fun a ha b hb e => ?_⟩
    rw [List.mem_singleton.mp hb] at e
    exact e1 (e ▸ ha)
theorem putW_len (m : Ws) (s : Str) (v : Str) : (putW m s v).length ≤ m.length + 1 := by
  rcases putW_keys m s v with e | ⟨_, e⟩
  · have := congrArg List.length e
    rw [List.length_map, List.length_map] at this
    omega
  · have := congrArg List.length e
    rw [List.length_map, List.length_append, List.length_map] at this
    simp only [List.length_cons, List.length_nil] at this
    omega
theorem putW_mem : ∀ {m : Ws} {s v : Str} {q : Str × Str}, q ∈ putW m s v → q ∈ m ∨ q = (s, v)
  | [], s, v, q, h => .inr (List.mem_singleton.mp h)
  | (x, u) :: r, s, v, q, h => by
    unfold putW at h
    by_cases e : x = s
    · rw [if_pos e] at h
      rcases List.mem_cons.mp h with h | h
      · exact .inr (by rw [h, e])
      · exact .inl (List.mem_cons_of_mem _ h)
    · rw [if_neg e] at h
      rcases List.mem_cons.mp h with h | h
      · exact .inl (h ▸ List.mem_cons_self)
      · rcases putW_mem h with h | h
        · exact .inl (List.mem_cons_of_mem _ h)
        · exact .inr h
theorem putW_new : ∀ (m : Ws) (s : Str) (v : Str), s ∉ m.map (·.1) → putW m s v = m ++ [(s, v)]
  | [], _, _, _ => rfl
  | (x, u) :: r, s, v, h => by
    rw [List.map_cons, List.mem_cons, not_or] at h
    unfold putW
    rw [if_neg (Ne.symm h.1), putW_new r s v h.2]
    rfl
theorem kvT_any : ∀ (m : Ws) (s : Str), ((kvT m).any fun kv => decide (kv.1 = Sum.inr s)) = decide (s ∈ m.map (·.1))
  | [], s => by simp [kvT]
  | (x, u) :: r, s => by
    show (decide ((Sum.inr x : Key) = Sum.inr s) || (kvT r).any fun kv => decide (kv.1 = Sum.inr s)) = _
    rw [kvT_any r s, key_rr]
    by_cases e : x = s
    · subst e; simp
    · have : ¬ s = x := Ne.symm e
      simp [e, this]
theorem kvT_upd : ∀ (m : Ws) (s : Str) (v : Str), s ∈ m.map (·.1) → (m.map (·.1)).Nodup → (kvT m).map (fun kv => if kv.1 = Sum.inr s then (kv.1, V.str v) else kv) = kvT (putW m s v)
  | (x, u) :: r, s, v, h, hn => by
    rw [List.map_cons, List.nodup_cons] at hn
    show (if (Sum.inr x : Key) = Sum.inr s then ((Sum.inr x : Key), V.str v) else (Sum.inr x, V.str u)) :: (kvT r).map _ = kvT (if x = s then (x, v) :: r else (x, u) :: putW r s v)
    by_cases e : x = s
    · subst e
      rw [if_pos rfl, if_pos rfl]
      have hx : ∀ (l : Ws), x ∉ l.map (·.1) → (kvT l).map (fun kv => if kv.1 = (Sum.inr x : Key) then (kv.1, V.str v) else kv) = kvT l := fun l => by
        induction l with
        | nil => intro _; rfl
        | cons p l ih =>
          obtain ⟨y, z⟩ := p
          intro hl
          rw [List.map_cons, List.mem_cons, not_or] at hl
          show (if (Sum.inr y : Key) = Sum.inr x then ((Sum.inr y : Key), V.str v) else ((Sum.inr y : Key), V.str z)) :: ((kvT l).map fun kv => if kv.1 = (Sum.inr x : Key) then (kv.1, V.str v) else kv) = _
          rw [if_neg (fun q => hl.1 (Sum.inr.inj q).symm), ih hl.2]
          rfl
      rw [hx r hn.1]
      rfl
    · rw [if_neg (fun q => e (Sum.inr.inj q)), if_neg e]
      rw [List.map_cons, List.mem_cons] at h
      rw [kvT_upd r s v (h.resolve_left (Ne.symm e)) hn.2]
      rfl
theorem kvT_put {m : Ws} (s : Str) (v : Str) (hn : (m.map (·.1)).Nodup) : putK (kvT m) (Sum.inr s) (V.str v) = kvT (putW m s v) := by
  unfold putK
  rw [kvT_any]
  by_cases h : s ∈ m.map (·.1)
  · rw [if_pos (by simpa using h), kvT_upd m s v h hn]
  · rw [if_neg (by simpa using h), putW_new m s v h]
    unfold kvT
    rw [List.map_append]
    rfl
theorem kvT_get : ∀ {m : Ws} {s : Str}, s ∈ m.map (·.1) → valV (kvT m) (Sum.inr s) = some (V.str (wo m s))
  | (x, u) :: r, s, h => by
    show valV (((Sum.inr x : Key), V.str u) :: kvT r) (Sum.inr s) = some (V.str (if x = s then u else wo r s))
    by_cases e : x = s
    · subst e
      rw [valV_pos rfl, if_pos rfl]
    · rw [List.map_cons, List.mem_cons] at h
      rw [valV_neg (fun q => e (Sum.inr.inj q)), if_neg e, kvT_get (h.resolve_left (Ne.symm e))]
theorem kvT_keys (m : Ws) : (kvT m).map (·.1) = (m.map (·.1)).map Sum.inr := by
  unfold kvT
  rw [List.map_map, List.map_map]
  rfl
theorem kvT_at {m : Ws} {i : Nat} {k : Key} {v : V} (h : (kvT m)[i]? = some (k, v)) : ∃ q, m[i]? = some q ∧ k = Sum.inr q.1 ∧ v = .str q.2 := by
  unfold kvT at h
  rw [List.getElem?_map] at h
  cases e : m[i]? with
  | none => rw [e] at h; cases h
  | some q => rw [e] at h; cases h; exact ⟨q, rfl, rfl, rfl⟩
theorem wget {H : Hp} {d : Addr} {m : Ws} {y : Str} (r : Rd H d (.dK (kvT m))) (hy : y ∈ m.map (·.1)) : DGet H d (.str y) (some (.str (wo m y))) :=
  .inl ⟨kvT m, Sum.inr y, r, rfl, (kvT_get hy).symm⟩
/-- d is a dict of names and words -/
structure WAt (H : Hp) (d : Addr) (m : Ws) : Prop where
  at_ : H d = some (.dK (kvT m))
  nd : (m.map (·.1)).Nodup
theorem WAt.same {H H' : Hp} {d : Addr} {m : Ws} (h : WAt H d m) (s : Same H H') : WAt H' d m := ⟨s _ _ h.at_, h.nd⟩
theorem WAt.stay {b : Addr} {H H' : Hp} {d : Addr} {m : Ws} (h : WAt H d m) (s : Stay b H H') (hb : ∃ xs, H b = some (.lst xs)) : WAt H' d m := by
  obtain ⟨xs, hb⟩ := hb
  exact ⟨s _ _ (ne_of h.at_ hb (by intro z; cases z)) h.at_, h.nd⟩
theorem WAt.new {H : Hp} {d : Addr} : WAt (upd H d (.dK [])) d [] := ⟨upd_same, List.nodup_nil⟩
theorem WAt.put {H : Hp} {d : Addr} {m : Ws} (h : WAt H d m) (x v : Str) : WAt (upd H d (.dK (putK (kvT m) (Sum.inr x) (V.str v)))) d (putW m x v) :=
  ⟨by rw [upd_same, kvT_put x v h.nd], putW_nodup x v h.nd⟩
/-! ### rounds -/
abbrev Tr := Str × Str × Str
abbrev Ts := List Tr
def TripAt (H : Hp) (x : V) (t : Tr) : Prop := ∃ a, x = .ref a ∧ H a = some (.tup [.str t.1, .str t.2.1, .str t.2.2])
theorem TripAt.same {H H' : Hp} {x : V} {t : Tr} (h : TripAt H x t) (s : Same H H') : TripAt H' x t := by
  obtain ⟨a, e, h⟩ := h
  exact ⟨a, e, s _ _ h⟩
theorem TripAt.stay {b : Addr} {H H' : Hp} {x : V} {t : Tr} (h : TripAt H x t) (s : Stay b H H') (hb : ∃ xs, H b = some (.lst xs)) : TripAt H' x t := by
  obtain ⟨a, e, h⟩ := h
  obtain ⟨xs, hb⟩ := hb
  exact ⟨a, e, s _ _ (ne_of h hb (by intro z; cases z)) h⟩
def TripsAt (H : Hp) (l : Addr) (ts : Ts) : Prop := ∃ xs, H l = some (.lst xs) ∧ Paired (TripAt H) xs ts
theorem TripsAt.same {H H' : Hp} {l : Addr} {ts : Ts} (h : TripsAt H l ts) (s : Same H H') : TripsAt H' l ts := by
  obtain ⟨xs, h1, h2⟩ := h
  exact ⟨xs, s _ _ h1, paired_map (fun _ _ q => q.same s) h2⟩
theorem TripsAt.stay {b : Addr} {H H' : Hp} {l : Addr} {ts : Ts} (h : TripsAt H l ts) (s : Stay b H H') (hb : ∃ xs, H b = some (.lst xs)) (ne : l ≠ b) : TripsAt H' l ts := by
  obtain ⟨xs, h1, h2⟩ := h
  exact ⟨xs, s _ _ ne h1, paired_map (fun _ _ q => q.stay s hb) h2⟩
theorem trips_push {H : Hp} {l t : Addr} {ts : Ts} {a b c : Str} (h : TripsAt H l ts) (ht : H t = none) :
    ∃ xs, upd H t (.tup [.str a, .str b, .str c]) l = some (.lst xs) ∧ xs.length = ts.length ∧ TripsAt (upd (upd H t (.tup [.str a, .str b, .str c])) l (.lst (xs ++ [.ref t]))) l (ts ++ [(a, b, c)]) := by
  obtain ⟨xs, hx, hp⟩ := h
  have tl : t ≠ l := fun z => by rw [z, hx] at ht; cases ht
  refine ⟨xs, (upd_ne tl.symm).trans hx, paired_len hp, _, upd_same, paired_snoc ⟨t, rfl, (upd_ne tl).trans upd_same⟩ (paired_map (fun y q hq => ?_) hp)⟩
  obtain ⟨u, rfl, hu⟩ := hq
  exact ⟨u, rfl, (upd_ne (ne_of hu hx (by intro z; cases z))).trans ((upd_ne (ne_of_none hu ht)).trans hu)⟩
/-! ### what fits -/
def fitL (w : Str) (n : Int) : Bool := if w = "none" then decide (n = 0) else if w = "some" then decide (1 ≤ n) else decide (0 ≤ n)
def fitR (w : Str) (r n : Int) : Bool := if w = "first" then decide (r = 0) else decide (0 ≤ r) && decide (r < n)
def syms (wm : Ws) (ts : Ts) : List Str := wm.map (·.1) ++ ts.map (·.1)
structure Fit (wm : Ws) (ts : Ts) (m : Ps) : Prop where
  keys : (m.map (·.1)).Perm (syms wm ts)
  len : ∀ q ∈ wm, fitL q.2 (co m q.1) = true
  rnd : ∀ t ∈ ts, fitR t.2.2 (co m t.1) (co m t.2.1) = true
structure OkD (wm : Ws) (ts : Ts) : Prop where
  nd : (syms wm ts).Nodup
  nam : ∀ q ∈ wm, isLc q.1.cps.toList = true ∧ (q.2 = "any" ∨ q.2 = "none" ∨ q.2 = "some")
  rnd : ∀ t ∈ ts, isRc t.1.cps.toList = true ∧ (t.2.1, ("some" : Str)) ∈ wm ∧ (t.2.2 = "first" ∨ t.2.2 = "any")
  few : wm.length ≤ 8 ∧ ts.length ≤ 8
theorem lc_rc {l : List Nat} (h1 : isLc l = true) (h2 : isRc l = true) : False := by
  rw [isRc_eq] at h2
  unfold isLc at h1
  simp only [Bool.and_eq_true] at h1 h2
  obtain ⟨_, h3, h4, h5, _⟩ := h2
  obtain ⟨_, _, h6⟩ := h1
  have h3 := of_decide_eq_true h3
  cases e : l.drop 1 with
  | nil => rw [e] at h3; cases h3
  | cons c r =>
    rw [e, List.all_cons, Bool.and_eq_true] at h5
    have hc : c ∈ l := List.mem_of_mem_drop (i := 1) (e ▸ List.mem_cons_self)
    have h6 := List.all_eq_true.mp h6 c hc
    simp only [Bool.and_eq_true, decide_eq_true_eq] at h5 h6
    omega
theorem syms_nd {wm : Ws} {ts : Ts} (h1 : (wm.map (·.1)).Nodup) (h2 : (ts.map (·.1)).Nodup) (h3 : ∀ q ∈ wm, isLc q.1.cps.toList = true) (h4 : ∀ t ∈ ts, isRc t.1.cps.toList = true) : (syms wm ts).Nodup := by
  unfold syms
  rw [List.nodup_append]
  refine ⟨h1, h2, fun a ha b hb e => ?_⟩
  obtain ⟨q, hq, rfl⟩ := List.mem_map.mp ha
  obtain ⟨t, ht, rfl⟩ := List.mem_map.mp hb
  have := h3 q hq
  rw [e] at this
  exact lc_rc this (h4 t ht)
theorem OkD.sub {wm : Ws} {ts : Ts} (h : OkD wm ts) (i : Nat) : OkD wm (ts.take i) := by
  have hs : (ts.take i).Sublist ts := List.take_sublist _ _
  refine ⟨h.nd.sublist ((List.Sublist.refl _).append (hs.map _)), h.nam, fun t ht => h.rnd t (hs.subset ht), h.few.1, ?_⟩
  rw [List.length_take]
  have := h.few.2
  omega
theorem OkD.sym {wm : Ws} {ts : Ts} (h : OkD wm ts) : ∀ s ∈ syms wm ts, isSym s = true := fun s hs => by
  unfold isSym
  rcases List.mem_append.mp hs with hs | hs
  · obtain ⟨q, hq, rfl⟩ := List.mem_map.mp hs
    rw [(h.nam q hq).1]
    rfl
  · obtain ⟨t, ht, rfl⟩ := List.mem_map.mp hs
    rw [(h.rnd t ht).1, Bool.or_true]
/-- p is a domain -/
def DomAt (C : Addr) (H : Hp) (p : Addr) (wm : Ws) (ts : Ts) : Prop := ∃ dx d l, H p = some (.ins C dx [("_lengths", .ref d), ("_rounds", .ref l)]) ∧ WAt H d wm ∧ TripsAt H l ts
theorem DomAt.same {C : Addr} {H H' : Hp} {p : Addr} {wm : Ws} {ts : Ts} (h : DomAt C H p wm ts) (s : Same H H') : DomAt C H' p wm ts := by
  obtain ⟨dx, d, l, h1, h2, h3⟩ := h
  exact ⟨dx, d, l, s _ _ h1, h2.same s, h3.same s⟩
/-- p is a domain, its dict at d, its list at l -/
def DomIn (C : Addr) (H : Hp) (p : Addr) (wm : Ws) (ts : Ts) (dx d l : Addr) : Prop := H p = some (.ins C dx [("_lengths", .ref d), ("_rounds", .ref l)]) ∧ WAt H d wm ∧ TripsAt H l ts
theorem DomIn.dom {C : Addr} {H : Hp} {p : Addr} {wm : Ws} {ts : Ts} {dx d l : Addr} (h : DomIn C H p wm ts dx d l) : DomAt C H p wm ts := ⟨dx, d, l, h⟩
theorem DomIn.same {C : Addr} {H H' : Hp} {p : Addr} {wm : Ws} {ts : Ts} {dx d l : Addr} (h : DomIn C H p wm ts dx d l) (s : Same H H') : DomIn C H' p wm ts dx d l := ⟨s _ _ h.1, h.2.1.same s, h.2.2.same s⟩
structure DomK (K : PySem.W.Frag) (C : Addr) : Prop where
  cl : Cls K C
  n1 : NoAttr K C "_lengths"
  n2 : NoAttr K C "_rounds"
/-- the two tuples of words -/
structure DTx (K : PySem.W.Frag) (mg : Str → Option Value) (AL AR : Addr) : Prop where
  hLW : mg "LENGTH_WORDS" = some (.ref AL)
  hRW : mg "ROUND_WORDS" = some (.ref AR)
  sL : ∀ H, SqT K H AL [.str "any", .str "none", .str "some"]
  sR : ∀ H, SqT K H AR [.str "first", .str "any"]
def spFitL : Sp := fun vs H Q _ => ∃ (w : Str) (n : Int), vs = [.str w, .int n] ∧ Q (.bl (fitL w n)) H
def spFitR : Sp := fun vs H Q _ => ∃ (w : Str) (r n : Int), vs = [.str w, .int r, .int n] ∧ Q (.bl (fitR w r n)) H
def spDSyms (C : Addr) : Sp := fun vs H Q _ => ∃ (p : Addr) (wm : Ws) (ts : Ts), vs = [.ref p] ∧ DomAt C H p wm ts ∧ wm.length ≤ 8 ∧ ts.length ≤ 8 ∧
  ∀ l ys H', ys.Perm (syms wm ts) → sortedS ys = true → H l = none → H' l = some (.lst (ys.map V.str)) → Same H H' → Q (.ref l) H'
def spDInit (K : PySem.W.Frag) (C : Addr) : Sp := fun vs H Q _ => ∃ (x d r dx : Addr) (xs : List V) (wm : Ws) (ts : Ts), vs = [.ref x, .ref d, .ref r] ∧ H x = some (.ins C dx []) ∧ WAt H d wm ∧ (SqL K H r xs ∨ SqT K H r xs) ∧ Paired (TripAt H) xs ts ∧ OkD wm ts ∧ ∀ H' e l, DomIn C H' x wm ts dx e l → H e = none → H l = none → Stay x H H' → Q .non H'
def spDIn (C : Addr) : Sp := fun vs H Q _ => ∃ (p v : Addr) (wm : Ws) (ts : Ts) (m : Ps), vs = [.ref p, .ref v] ∧ DomAt C H p wm ts ∧ OkD wm ts ∧ DictAt H v m ∧ m.length ≤ 32 ∧ ∀ b H', (b = true ↔ Fit wm ts m) → Same H H' → Q (.bl b) H'
/-! ### lists of texts as data -/
def datS (l : List Str) : List PyData := l.map PyData.str
theorem dpAll_s {K : PySem.W.Frag} {H : Hp} : ∀ l : List Str, DpAll K H (l.map V.str) (datS l)
  | [] => .nil
  | x :: l => .cons (.str _) (dpAll_s l)
theorem can_s : ∀ {l : List Str}, (∀ x ∈ l, isSym x = true) → PyData.canLayAll0 (datS l) = true
  | [], _ => rfl
  | x :: l, h => by
    show (PyData.strOk x && PyData.canLayAll0 (datS l)) = true
    rw [sym_ok (h x List.mem_cons_self), can_s fun p hp => h p (List.mem_cons_of_mem _ hp)]
    rfl
theorem depth_s : ∀ (l : List Str), PyData.depthAll (datS l) = 0
  | [] => rfl
  | x :: l => by
    show max (PyData.depth (.str x)) (PyData.depthAll (datS l)) = 0
    rw [depth_s l]
    simp [PyData.depth]
theorem shapedS {l : List Str} (h : ∀ x ∈ l, isSym x = true) : SeqAt.shaped (.list (datS l)) = true := by
  unfold SeqAt.shaped
  rw [Bool.and_eq_true]
  refine ⟨can_s h, decide_eq_true ?_⟩
  have := depth_s l
  show PyData.depthAll (datS l) + 1 ≤ 64
  omega
theorem eqvS : ∀ (l l' : List Str), PyData.eqvAll (datS l) (datS l') = decide (l = l')
  | [], [] => by simp [datS, PyData.eqvAll]
  | [], _ :: _ => by simp [datS, PyData.eqvAll]
  | _ :: _, [] => by simp [datS, PyData.eqvAll]
  | x :: l, y :: l' => by
    have ih := eqvS l l'
    unfold datS at ih ⊢
    rw [List.map_cons, List.map_cons]
    simp only [PyData.eqvAll, PyData.eqv, ih]
    by_cases e : x = y
    · subst e
      simp
    · simp [e]
theorem eqvLS (l l' : List Str) : PyData.eqv (.list (datS l)) (.list (datS l')) = decide (l = l') := by
  rw [PyData.eqv, eqvS]
theorem srt_iff {ys zs a b : List Str} (h1 : ys.Perm a) (h2 : zs.Perm b) (s1 : sortedS ys = true) (s2 : sortedS zs = true) : ys = zs ↔ a.Perm b :=
  ⟨fun e => h1.symm.trans (e ▸ h2), fun p => sorted_one (sorted_pw s1) (sorted_pw s2) (h1.trans (p.trans h2.symm))⟩
theorem mergeK_kvT : ∀ (b a : Ws), ((a ++ b).map (·.1)).Nodup → mergeK (kvT a) (kvT b) = kvT (a ++ b)
  | [], a, _ => by rw [List.append_nil]; rfl
  | (x, v) :: b, a, h => by
    have hx : x ∉ a.map (·.1) := fun hx => by
      rw [List.map_append, List.nodup_append] at h
      exact h.2.2 x hx x (by simp) rfl
    have e : (a ++ (x, v) :: b) = (a ++ [(x, v)]) ++ b := by simp
    have ha : (a.map (·.1)).Nodup := by
      rw [List.map_append, List.nodup_append] at h
      exact h.1
    rw [e] at h ⊢
    rw [← mergeK_kvT b (a ++ [(x, v)]) h, ← putW_new a x v hx, ← kvT_put x v ha]
    rfl
theorem self_wo {wm : Ws} (nd : (wm.map (·.1)).Nodup) : (wm.map (·.1)).map (fun y => (y, wo wm y)) = wm := by
  rw [List.map_map]
  conv => rhs; rw [← List.map_id wm]
  exact List.map_congr_left fun q hq => by
    show (q.1, wo wm q.1) = q
    rw [wo_in nd hq]
theorem rev_perm {wm : Ws} {ys : List Str} (nd : (wm.map (·.1)).Nodup) (h : ys.Perm (wm.map (·.1))) : (ys.reverse.map fun y => (y, wo wm y)).Perm wm := by
  have := ((List.reverse_perm ys).trans h).map fun y => (y, wo wm y)
  rw [self_wo nd] at this
  exact this
theorem syms_perm {wm gm : Ws} {ts : Ts} (p : gm.Perm wm) : (syms gm ts).Perm (syms wm ts) := (p.map _).append_right _
theorem OkD.perm {wm gm : Ws} {ts : Ts} (h : OkD wm ts) (p : gm.Perm wm) : OkD gm ts :=
  ⟨(syms_perm p).nodup_iff.mpr h.nd, fun q hq => h.nam q (p.mem_iff.mp hq), fun t ht => ⟨(h.rnd t ht).1, p.mem_iff.mpr (h.rnd t ht).2.1, (h.rnd t ht).2.2⟩, by rw [p.length_eq]; exact h.few⟩
theorem fit_perm {wm gm : Ws} {ts : Ts} {m : Ps} (p : gm.Perm wm) : Fit gm ts m ↔ Fit wm ts m :=
  ⟨fun h => ⟨h.keys.trans (syms_perm p), fun q hq => h.len q (p.mem_iff.mpr hq), h.rnd⟩, fun h => ⟨h.keys.trans (syms_perm p).symm, fun q hq => h.len q (p.mem_iff.mp hq), h.rnd⟩⟩
def datR (ts : Ts) : List PyData := ts.map fun t => .tuple [.str t.1, .str t.2.1, .str t.2.2]
theorem dpAll_r {K : PySem.W.Frag} {H : Hp} : ∀ {xs : List V} {ts : Ts}, Paired (TripAt H) xs ts → DpAll K H xs (datR ts)
  | _, _, .nil => .nil
  | _, _, .cons h r => by
    obtain ⟨t, rfl, h⟩ := h
    exact .cons (.tup (SqT.of h) (.cons (.str _) (.cons (.str _) (.cons (.str _) .nil)))) (dpAll_r r)
def OkT (t : Tr) : Prop := isSym t.1 = true ∧ isSym t.2.1 = true ∧ isSym t.2.2 = true ∨ isSym t.1 = true ∧ isSym t.2.1 = true ∧ t.2.2 = "first"
theorem okT_str {t : Tr} (h : OkT t) : PyData.strOk t.1 = true ∧ PyData.strOk t.2.1 = true ∧ PyData.strOk t.2.2 = true := by
  rcases h with ⟨a, b, c⟩ | ⟨a, b, c⟩
  · exact ⟨sym_ok a, sym_ok b, sym_ok c⟩
  · refine ⟨sym_ok a, sym_ok b, ?_⟩
    rw [c]
    decide +kernel
theorem can_r : ∀ {ts : Ts}, (∀ t ∈ ts, OkT t) → PyData.canLayAll0 (datR ts) = true
  | [], _ => rfl
  | t :: ts, h => by
    obtain ⟨a, b, c⟩ := okT_str (h t List.mem_cons_self)
    show ((PyData.strOk t.1 && (PyData.strOk t.2.1 && (PyData.strOk t.2.2 && true))) && PyData.canLayAll0 (datR ts)) = true
    rw [a, b, c, can_r fun p hp => h p (List.mem_cons_of_mem _ hp)]
    rfl
theorem depth_r : ∀ (ts : Ts), PyData.depthAll (datR ts) ≤ 1
  | [] => Nat.zero_le _
  | t :: ts => by
    show max (PyData.depth (.tuple [.str t.1, .str t.2.1, .str t.2.2])) (PyData.depthAll (datR ts)) ≤ 1
    have h1 : PyData.depth (.tuple [.str t.1, .str t.2.1, .str t.2.2]) = 1 := by simp [PyData.depth, PyData.depthAll]
    have h2 := depth_r ts
    omega
theorem shapedR {ts : Ts} (h : ∀ t ∈ ts, OkT t) : SeqAt.shaped (.list (datR ts)) = true := by
  unfold SeqAt.shaped
  rw [Bool.and_eq_true]
  refine ⟨can_r h, decide_eq_true ?_⟩
  have := depth_r ts
  show PyData.depthAll (datR ts) + 1 ≤ 64
  omega
theorem eqvR {ts : Ts} (h : ∀ t ∈ ts, OkT t) : PyData.eqv (.list (datR ts)) (.list (datR ts)) = true := SeqAt.eqv_refl _ (SeqAt.canLay_of_shaped (shapedR h))
theorem eqvR_nil (ts : Ts) : PyData.eqv (.list (datR ts)) (.list []) = ts.isEmpty := by
  cases ts <;> rfl
theorem OkD.trip {wm : Ws} {ts : Ts} (h : OkD wm ts) : ∀ t ∈ ts, OkT t := fun t ht => by
  obtain ⟨a, b, c⟩ := h.rnd t ht
  have h1 : isSym t.1 = true := by
    unfold isSym
    rw [a, Bool.or_true]
  have h2 : isSym t.2.1 = true := by
    unfold isSym
    rw [(h.nam _ b).1]
    rfl
  rcases c with c | c
  · exact .inr ⟨h1, h2, c⟩
  · refine .inl ⟨h1, h2, ?_⟩
    rw [c]
    decide +kernel
theorem sq_stay {K : PySem.W.Frag} {H H' : Hp} {x r : Addr} {xs : List V} (h : SqL K H r xs ∨ SqT K H r xs) (hx : ∃ C dx fs, H x = some (.ins C dx fs)) (s : Stay x H H') : (SqL K H r xs → SqL K H' r xs) ∧ (SqT K H r xs → SqT K H' r xs) := by
  obtain ⟨C, dx, fs, hx⟩ := hx
  refine ⟨fun h => ?_, fun h => ?_⟩
  · rcases h with (e | ⟨o, e⟩) | h
    · exact .inl (.inl (s _ _ (ne_of e hx (by intro z; cases z)) e))
    · exact .inl (.inr ⟨o, s _ _ (ne_of e hx (by intro z; cases z)) e⟩)
    · exact .inr h
  · rcases h with (e | ⟨o, e⟩) | h
    · exact .inl (.inl (s _ _ (ne_of e hx (by intro z; cases z)) e))
    · exact .inl (.inr ⟨o, s _ _ (ne_of e hx (by intro z; cases z)) e⟩)
    · exact .inr h
theorem seq_or {K : PySem.W.Frag} {H H1 : Hp} {x r : Addr} {xs : List V} {R : It → Prop} (h : SqL K H r xs ∨ SqT K H r xs) (hx : ∃ C dx fs, H x = some (.ins C dx fs)) (s1 : Stay x H H1)
    (k : ∀ J, Walk J xs.length (fun H' => Stay x H H') (YAt xs) → R J) : (SqL K H1 r xs ∧ R (Itl K r)) ∨ (SqT K H1 r xs ∧ R (Itt K r)) := by
  rcases id h with q | q
  · exact .inl ⟨(sq_stay h hx s1).1 q, k _ (walk_list.mono (fun H' s => (sq_stay h hx s).1 q) fun _ _ _ _ _ _ y => y)⟩
  · exact .inr ⟨(sq_stay h hx s1).2 q, k _ (walk_tup.mono (fun H' s => (sq_stay h hx s).2 q) fun _ _ _ _ _ _ y => y)⟩
theorem inV_str {s : Str} : ∀ {l : List Str}, inV (.str s) (l.map V.str) = decide (s ∈ l)
  | [] => rfl
  | y :: l => by
    show (eqV (.str y) (.str s) || inV (.str s) (l.map V.str)) = _
    rw [inV_str]
    by_cases e : y = s
    · subst e
      simp [eqV]
    · have : ¬ s = y := Ne.symm e
      simp [eqV, e, this]
theorem flat_strs : ∀ l : List Str, (l.map V.str).all flatV = true
  | [] => rfl
  | _ :: l => flat_strs l
theorem lc_len {x : Str} (h : isLc x.cps.toList = true) : x.length ≤ sizeLine := sym_len (by unfold isSym; rw [h]; rfl)
theorem rc_len {x : Str} (h : isRc x.cps.toList = true) : x.length ≤ sizeLine := sym_len (by unfold isSym; rw [h, Bool.or_true])
section
variable {X : Cx} {tg : Expr}
def iSeq (K : PySem.W.Frag) (tl : TE) : TI := fun σ H R => tl σ H fun x H1 => ∃ a xs, x = .ref a ∧ ((SqL K H1 a xs ∧ R (Itl K a) H1) ∨ (SqT K H1 a xs ∧ R (Itt K a) H1))
theorem pi_seq {l : Expr} {tl : TE} (hl : PE X l tl) : PI X tg l (iSeq X.K tl) := by
  refine ⟨fun pins s σ H R I h => ?_⟩
  refine thn (hl.run pins s σ H _ I h) fun v s1 ⟨x, H1, I1, r1, q1⟩ => ?_
  obtain ⟨a, xs, e, q⟩ := q1
  subst e
  cases r1
  rcases q with ⟨hq, q⟩ | ⟨hq, q⟩
  · obtain ⟨its, rv, p, hz⟩ := I1.list hq
    refine wpAny_pyIter_list p.isList ?_
    refine ⟨s1.heap.objs.size, [s1.heap.objs.size], _, _, H1, rfl, I1.kept (t' := s1.toks) fun b o e => Heap.get?_push_of_some _ e, turn_list a _, ⟨_, Heap.get?_push_size _ rfl, rfl, rfl⟩, fun b hb => ?_, q⟩
    have e : b = s1.heap.objs.size := by simpa using hb
    subst e
    exact I1.fpOk (Nat.le_refl _) (I1.hok.fresh (Nat.le_refl _))
  · obtain ⟨its, rv, p, hz⟩ := I1.tuple hq
    refine wpAny_pyIter_tuple (show s1.heap.IsTuple a its.toArray from p) ?_
    refine ⟨s1.heap.objs.size, [s1.heap.objs.size], _, _, H1, rfl, I1.kept (t' := s1.toks) fun b o e => Heap.get?_push_of_some _ e, turn_tuple a _, ⟨_, Heap.get?_push_size _ rfl, rfl, rfl⟩, fun b hb => ?_, q⟩
    have e : b = s1.heap.objs.size := by simpa using hb
    subst e
    exact I1.fpOk (Nat.le_refl _) (I1.hok.fresh (Nat.le_refl _))
end
end Ow

set_option Elab.async false
set_option linter.all false
set_option maxRecDepth 100000
set_option maxHeartbeats 4000000
namespace Ow
open PySem PySem.Spec PyProof.Rows L2
local macro_rules | `(tactic| walk_at "rd") => `(tactic| repeat (first | (refine ⟨_, rfl, ?_⟩) | (refine ⟨_, _, rfl, rfl, ?_⟩) | (refine ⟨rfl, ?_⟩) | (refine ⟨_, _, rfl, ?_⟩) | (refine Or.inl ⟨_, rfl, ?_⟩) | (refine ⟨(by first | (show (0 : Int) < (_ : Int); decide) | exact Or.inl ⟨by decide, by decide⟩ | exact Or.inr ⟨by decide, by decide⟩ | exact ⟨by decide, by decide⟩ | exact ⟨by decide, by decide, by decide⟩), ?_⟩)))
section
variable {P : Program} {w : World} {K : PySem.W.Frag} {mg : Str → Option Value} {base : Heap}
abbrev s_is_list_name : Stmt := top 8
theorem sc_is_list_name : FnScope ["text", "letter"] ["text"] (defScope s_is_list_name) := ⟨rfl, rfl, rfl, by decide +kernel, rfl, by decide +kernel, by decide +kernel⟩
theorem ok_isl {f : Addr} {fd : FuncData} (F : Fun K "is_list_name" "is_list_name" s_is_list_name f fd) (T : Txt mg) : FnOk P w K mg base CX0 1 f fd ["text"] spIsL := by
  refine F.ok sc_is_list_name (fun vs H Q E h => ?_) (fun cdv A outer s H vs Q E hr h => ?_)
  · obtain ⟨x, rfl, _⟩ := h
    rfl
  · obtain ⟨x, rfl, hx, k⟩ := h
    have hu := hu_of hr
    refine ⟨_, (pss_one (ps_ret (pe_and (pe_chain op_le op_le pe_int (pe_callB call_len_str (by rfl) T.n_len (by decide +kernel) (pa_cons (pv 0) pa_nil)) (pe_globI rfl T.mg_MOST_LETTERS)) (pe_one (pe_callB (cr_all rfl) (by rfl) T.n_all (by decide +kernel) (pa_cons (pe_lc (own := [("letter", 1)]) (g := gName 1) (by rfl) sc_is_list_name.nd (pi_str (pv 0)) (blkOk_by (own := [("letter", 1)]) (N := ["text", "letter"]) (sc := defScope s_is_list_name) (by decide +kernel)) (fun _ _ _ _ _ => (pg_name (i := 1) sc_is_list_name.nd rfl (Or.inl rfl))) (fun _ _ _ _ _ => pts_nil) (fun _ _ _ _ _ => (pe_cmpR op_in_sign (pv 1) (pe_globS rfl T.mg_LETTERS) rfl))) pa_nil)))))), ?_⟩
    walk_at "rd"
    have hlen : x.length = x.cps.toList.length := (Array.length_toList).symm
    refine ⟨hx, ?_⟩
    walk_at "rd"
    refine ite2 (fun h1 => ?_) (fun h1 => ?_)
    · walk_at "rd"
      refine ite2 (fun h2 => ?_) (fun h2 => ?_)
      · walk_at "rd"
        have h3 : decide (1 ≤ x.cps.toList.length) = true := decide_eq_true (by have := of_decide_eq_true h1; omega)
        have h4 : decide (x.cps.toList.length ≤ 3) = true := decide_eq_true (by have := of_decide_eq_true h2; omega)
        refine fun D hD => lc_it walk_str (fun i H' => H' D = some (.lst (((x.cps.toList.take i).map fun c => decide (97 ≤ c) && decide (c ≤ 122)).map V.bl)) ∧ Same H H') ⟨upd_same, same_new (fun _ _ e => e) hD⟩ (fun _ _ _ _ => True.intro) ?_ ?_
        · rintro i v _ H' hi ⟨hl, S5⟩ ⟨rfl, c, hc, rfl⟩
          rw [← Array.getElem?_toList] at hc
          refine ⟨rfl, ?_⟩
          walk_at "rd"
          refine ⟨_, hl, ?_, ?_, same_over S5 hD⟩
          · rw [List.length_map, List.length_map, List.length_take]
            have h4' := of_decide_eq_true h4
            exact Nat.lt_of_lt_of_le (m := 4) (by omega) (by decide)
          · rw [upd_same, List.take_add_one, hc, List.map_append, List.map_append]
            have := abc_mem c
            unfold abcL at this
            rw [this]
            rfl
        · rintro H' ⟨hl, S5⟩
          refine ⟨D, _, rfl, SqL.of hl, ?_⟩
          have e : List.all ((x.cps.toList.take x.cps.size).map fun c => decide (97 ≤ c) && decide (c ≤ 122)) id = isLc x.cps.toList := by
            unfold isLc
            rw [h3, h4, ← Array.length_toList, List.take_length, List.all_map]
            rfl
          rw [e]
          exact k _ S5
      · have e : isLc x.cps.toList = false := by
          unfold isLc
          have : ¬ x.cps.toList.length ≤ 3 := fun z => h2 (decide_eq_true (by omega))
          rw [decide_eq_false this]
          simp
        have := k _ (fun _ _ e => e)
        rw [e] at this
        exact this
    · have e : isLc x.cps.toList = false := by
        unfold isLc
        have : ¬ 1 ≤ x.cps.toList.length := fun z => h1 (decide_eq_true (by omega))
        rw [decide_eq_false this]
        rfl
      have := k _ (fun _ _ e => e)
      rw [e] at this
      exact ⟨_, rfl, this⟩
end
end Ow

set_option Elab.async false
set_option linter.all false
set_option maxRecDepth 100000
set_option maxHeartbeats 2000000
/-! enumerate of a tuple; l.count of texts -/
namespace PySem.EnT
open PySem PySem.Spec PyProof.Rows L2
open PySem.Sem (wp)

theorem new_enum {v : Value} {o : Obj} {G : Heap → Prop} (B : Begins v o G) :
    Meets (Builtin.«enumerate.__new__» ⟨[.type "enumerate", v], []⟩) (fun _ R s => G s.heap ∧
      R (.ok (.ret (.ref (s.heap.push o).objs.size))) { s with heap := (s.heap.push o).push { cls := .type "enumerate", data := .fields #[.none, .bool false, .ref s.heap.objs.size, rawInt 0, .none, .none] } }) :=
  .of_wp fun prog w A R s q => by
    obtain ⟨hp, gs, ds, tk, os⟩ := s
    obtain ⟨g0, q⟩ := q
    have sub := sub_enumerate
    have made : ∀ {A' : Around} {E Q : Value → Shared → Prop}, Q (.ref hp.objs.size) ⟨hp.push o, gs, ds, tk, os⟩ → wpAny (model prog w) A' (pyIter v) Q E ⟨hp, gs, ds, tk, os⟩ :=
      fun z => B.iter prog w _ _ ⟨hp, gs, ds, tk, os⟩ _ g0 z
    wp_walk using made
    refine wpAny_stack_any fun st => wpAny_pure ?_
    split
    · rename_i c _ _ _ _ _
      cases (c == Value.type "enumerate") <;> (wp_walk using made; exact ⟨_, rfl, q⟩)
    · wp_walk using made
      exact ⟨_, rfl, q⟩

theorem call_enum {P : Program} {w : World} {A : Around} {E : Value → Shared → Prop} {s : Shared} {v : Value} {o : Obj} {G : Heap → Prop} {Q : Value → Shared → Prop} (B : Begins v o G) (g0 : G s.heap)
    (h : ∀ h', IsEnum h' (s.heap.objs.size + 1) s.heap.objs.size 0 .none → h'.get? s.heap.objs.size = some o →
      (∀ b ob, s.heap.get? b = some ob → h'.get? b = some ob) → Q (.ref (s.heap.objs.size + 1)) { s with heap := h' }) :
    wpAny (model P w) A (call (.type "enumerate") [v]) Q E s := by
  refine callType_new F.called_enumerate (by decide) (F.typeCall_enumerate_1 _) (F.newCall_enumerate_1 _) (fun obj => F.args_object_init_2 obj _) F.entry_enumerate_new (new_enum B) ⟨g0, ?_⟩
  have z : (s.heap.push o).objs.size = s.heap.objs.size + 1 := Heap.size_push ..
  show _ ∧ _
  rw [z]
  have top := Heap.get?_push_size (s.heap.push o) (o := { cls := .type "enumerate", data := .fields #[.none, .bool false, .ref s.heap.objs.size, rawInt 0, .none, .none] }) rfl
  rw [z] at top
  exact ⟨⟨_, top, rfl⟩, h _ top (Heap.get?_push_of_some _ (Heap.get?_push_size _ B.free)) fun b ob x => Heap.get?_push_of_some _ (Heap.get?_push_of_some _ x)⟩

theorem end_enum {P : Program} {w : World} {A : Around} {E : Value → Shared → Prop} {s : Shared} {e it t : Addr} {i : Nat} {items : Array Value} {n : Int} {old : Value} {Q : Option Value → Shared → Prop} (hh : A.handled = none)
    (he : IsEnum s.heap e it n old) (hit : s.heap.IsTupleIter it t i) (ht : s.heap.IsTuple t items) (hx : items[i]? = none)
    (hQ : ∀ h', Heap.ExtBut it s.heap h' → Q none { s with heap := h' }) : wpAny (model P w) A (pyNext (.ref e)) Q E s := by
  have hT : s.TypeIs (.ref e) "enumerate" := ⟨_, he, rfl⟩
  unfold pyNext
  refine wpAny_bind (wpAny_attempt (wpAny_callSpecial?_slot (name := Str.ofString "__next__") hT F.slot_enumerate_next (wpAny_call_entry F.slot_enumerate_next hT F.entry_enumerate_next ?_ (F.args_enumerate_next_1 _))))
  show wpAny _ _ (field (.ref e) 2 >>= _) _ _ _
  refine wpAny_bind (wpAny_field he rfl (x := .ref it) rfl ?_)
  refine wpAny_bind (wpAny_nextOf_tuple_end hh hit ht hx fun h' x he' ⟨o, ho, hc⟩ => ?_)
  refine wpAny_bind (wpAny_isInstance (T := "StopIteration") (b := true) ⟨o, ho, hc⟩ isSubtype_stop ?_)
  exact wpAny_pure (hQ _ he')

/-- the tuple at a, each item in a new pair -/
def Ite (K : PySem.W.Frag) (a : Addr) : It :=
  ⟨fun i H => ∃ (xs : List V) (x : V), SqT K H a xs ∧ xs[i]? = some x, fun i H v H' => ∃ T x, v = .ref T ∧ H T = none ∧ H' = upd H T (.tup [.int (i : Nat), x]) ∧ ∀ xs, SqT K H a xs → xs[i]? = some x, fun i H => ∃ xs : List V, SqT K H a xs ∧ xs.length ≤ i⟩
theorem turn {P : Program} {w : World} {K : PySem.W.Frag} {elts : List Expr} {kk : Nat} {tpos : Pos} (a e it : Addr) :
    Turn P w K (.Tuple elts kk tpos) (Ite K a) [e, it] e (fun i h => (∃ old, IsEnum h e it ((i : Nat) : Int) old) ∧ h.IsTupleIter it a i ∧ e ≠ it) where
  mem := by simp
  obj := fun i h st b hb => by
    obtain ⟨⟨old, he⟩, ⟨o, ho, hc, hd⟩, _⟩ := st
    rcases (show b = e ∨ b = it by simpa using hb) with z | z
    · rw [z]; exact ⟨_, he, fun v q => nomatch q⟩
    · rw [z]; exact ⟨o, ho, fun v q => by rw [hd] at q; cases q⟩
  keep := fun i h h' st k => by
    obtain ⟨⟨old, he⟩, hi, hne⟩ := st
    exact ⟨⟨old, k e (by simp) _ he⟩, hi.at fun o q => k it (by simp) o q, hne⟩
  item := by
    intro X hP hw hK hc i pins s σ H E I hf st hg
    subst hP hw hK
    obtain ⟨⟨old, he⟩, hit, hne⟩ := st
    obtain ⟨xs, x, hq, hx⟩ := hg
    obtain ⟨its, rv, p, hz⟩ := I.tuple hq
    obtain ⟨u, hu, ru⟩ := rv.get hx
    have ht : s.heap.IsTuple a its.toArray := p
    have hel : e < s.heap.objs.size := Heap.lt_size he
    have hil : it < s.heap.objs.size := by obtain ⟨_, q, _⟩ := hit; exact Heap.lt_size q
    have ae : a ≠ e := fun z => by
      obtain ⟨o, ho, hc, _⟩ := ht
      rw [z, he] at ho
      cases ho
      exact nomatch (show Value.type "enumerate" = Value.type "tuple" from hc)
    have ai : a ≠ it := fun z => by
      obtain ⟨o, ho, hc, _⟩ := ht
      obtain ⟨o', ho', hc', _⟩ := hit
      rw [z, ho'] at ho
      cases ho
      rw [hc'] at hc
      exact absurd hc (by decide)
    refine wpAny_pyNext_enum_itemC (n := its.toArray.size) (fp := [it, a]) (Draws.tuple (A := X.A.in1) (I.ok.hd hc) it a ai its.toArray) he ⟨hit, ht⟩ (by
      have := (List.getElem?_eq_some_iff.mp hu).1
      simpa using this) hne (fun z => by
      rcases (show e = it ∨ e = a by simpa using z) with z | z
      · exact hne z
      · exact ae z.symm) fun y h' tk hy ho hit' hT hsz hk => ?_
    obtain rfl : y = u := by
      have e1 : its.toArray[i]? = some u := by simpa using hu
      exact Option.some.inj (hy.symm.trans e1)
    refine ⟨_, rfl, wpAny_letOwnedTupleGo_enum (s := { s with heap := h', toks := tk + 1 }) ho fun h'' he' sb => ?_⟩
    have hT2 : h''.get? s.heap.objs.size = some { cls := .type "tuple", data := .seq #[.int i tk, y] } := (sb.2 _ (Nat.ne_of_gt hel)).trans hT
    have new : ObjOk X.prog X.w (upd H s.heap.objs.size (.tup [.int (i : Nat), x])) h'' s.heap.objs.size (.tup [.int (i : Nat), x]) :=
      ⟨by show 2 ≤ sizeLine; decide, [.int i tk, y], .cons ⟨_, rfl⟩ (.cons ru .nil), ⟨_, hT2, rfl, _, rfl⟩⟩
    have I1 : Inv X pins σ (upd H s.heap.objs.size (.tup [.int (i : Nat), x])) { s with heap := h'', toks := tk + 1 } :=
      I.turnedNew (ch := [e, it]) (fun b ob hb q => (sb.2 b (fun z => hb (by simp [z]))).trans (hk b ob (fun z => hb (by simp [z])) (fun z => hb (by simp [z])) q)) hf (Nat.le_refl _) new
    refine ⟨.ref s.heap.objs.size, _, I1, rfl, ⟨_, x, rfl, I.hok.fresh (Nat.le_refl _), rfl, fun ys hy => by rw [I.tuple_inj hy hq]; exact hx⟩, ⟨⟨y, ?_⟩, hit'.1.at fun o q => (sb.2 it (Ne.symm hne)).trans q, hne⟩, fun b hb => ?_⟩
    · have e1 : ((i + 1 : Nat) : Int) = (i : Int) + 1 := by omega
      rw [e1]; exact he'
    · have hb' : b < s.heap.objs.size := by
        rcases (show b = e ∨ b = it by simpa using hb) with z | z
        · rw [z]; exact hel
        · rw [z]; exact hil
      rw [upd_ne (Nat.ne_of_lt hb')]
      exact (hf b hb).1
  done := by
    intro X hP hw hK hc i pins s σ H E I hf st hg
    subst hP hw hK
    obtain ⟨⟨old, he⟩, hit, hne⟩ := st
    obtain ⟨xs, hq, hx⟩ := hg
    obtain ⟨its, rv, p, hz⟩ := I.tuple hq
    obtain ⟨f0, f1, f2, f3, f4, f5⟩ := hf it (by simp)
    have hl := rv.length
    exact end_enum (I.ok.hd hc) he hit (show s.heap.IsTuple a its.toArray from p) (by simp; omega) fun h' eb => ⟨rfl, I.turned (t' := s.toks) (fun b o hb q => eb b o hb q) f0 f1 f3 f4 f5⟩
  self := fun A i s Q E st h => let ⟨⟨_, he⟩, _⟩ := st; wpAny_pyIter_enum he h
def iEnumT (K : PySem.W.Frag) (ta : TA) : TI := fun σ H R => ta σ H fun vs H1 => ∃ a xs, vs = [.ref a] ∧ SqT K H1 a xs ∧ R (Ite K a) H1
theorem pi_enumT {X : Cx} {e : Expr} {ta : TA} {p pos tpos : Pos} {elts : List Expr} {kk : Nat} (hg : Gl X "enumerate") (hm : X.mg "enumerate" = none) (ha : PA X [e] ta) (hs : starEach [e] X.env = [(false, eval e X.env)] := by rfl) :
    PI X (.Tuple elts kk tpos) (.Call (.Name "enumerate" p) [e] [] pos) (iEnumT X.K ta) := by
  refine ⟨fun pins s σ H R I h => ?_⟩
  refine PyProof.Rows.Call_ (ld_blt I hg hm boot_enumerate (PyProof.Rows.callWith_type1 (thn (ha.run pos pins s σ H _ I h) fun us s1 ⟨vs, H1, I1, r1, q1⟩ => ?_) hs rfl))
  obtain ⟨a, xs, ex, hq, q⟩ := q1
  subst ex
  cases r1 with
  | cons r rr =>
    cases rr
    cases r
    obtain ⟨its, rv, p', hz⟩ := I1.tuple hq
    refine call_enum (begins_tuple a its.toArray) p' fun h' he hi hk => wpAny_pyIter_enum he ?_
    have I2 : Inv X pins σ H1 { s1 with heap := h' } := I1.kept (t' := s1.toks) hk
    refine ⟨s1.heap.objs.size + 1, [s1.heap.objs.size + 1, s1.heap.objs.size], _, _, H1, rfl, I2, turn a (s1.heap.objs.size + 1) s1.heap.objs.size, ⟨⟨.none, he⟩, ⟨_, hi, rfl, rfl⟩, Nat.succ_ne_self _⟩, fun b hb => ?_, q⟩
    have hle : s1.heap.objs.size ≤ b := by
      rcases (show b = s1.heap.objs.size + 1 ∨ b = s1.heap.objs.size by simpa using hb) with z | z
      · rw [z]; exact Nat.le_add_right _ _
      · rw [z]; exact Nat.le_refl _
    exact I1.fpOk hle (I1.hok.fresh hle)
section
variable {X : Cx}
def rCntS (K : PySem.W.Frag) : V → List V → Hp → VK → Prop := fun x xs H Q => ∃ (p : Addr) (ns : List Str) (k : Str), x = .ref p ∧ xs = [.str k] ∧ SqL K H p (ns.map V.str) ∧ Q (.int (ns.countP (· == k) : Nat)) H
theorem strs_are : ∀ {ns : List Str} {its : List Value}, Vals (ns.map V.str) its → PyProof.Rows.StrsAre its ns
  | [], us, r => by
    rw [List.map_nil] at r
    cases r
    exact .nil
  | n :: ns, us, r => by
    rw [List.map_cons] at r
    cases r with
    | cons h t =>
      obtain ⟨u, rfl⟩ := h
      exact .cons n u (strs_are t)
theorem count_strs (k : Str) : ∀ {its : List Value} {ns : List Str}, PyProof.Rows.StrsAre its ns → its.countP (PyProof.Rows.isStrOf k) = ns.countP (· == k)
  | _, _, .nil => rfl
  | _, _, .cons n u h => by
    rw [List.countP_cons, List.countP_cons, count_strs k h]
    rfl
theorem mt_lcountS : MtR X "list.count" (rCntS X.K) := by
  intro pins s σ H x xs v us Q I rx rxs h
  obtain ⟨p, ns, k, rfl, rfl, hs, q⟩ := h
  cases rx
  obtain ⟨u, rfl, ru⟩ := rxs.one
  obtain ⟨t, rfl⟩ := ru
  obtain ⟨its, rv, ⟨⟨cls, dd, data, sl⟩, n, ho, hc, hdn, hd⟩, hlen⟩ := I.list hs
  simp only at hc hd
  subst hc hd
  have hi := strs_are rv
  refine call_meets PySem.F.slot_list_count ⟨_, ho, rfl⟩ PySem.F.entry_list_count (PySem.F.args_list_count_2 _ _)
    (SeqAt.list_countAt p its.toArray n dd sl (.str k t) (PyProof.Rows.isStrOf k)) ⟨ho, fun y hy => (PyProof.Rows.eq_isStrOf k t hi y (by simpa using hy)).at _ _, ?_⟩
  have ec : its.toArray.toList.countP (PyProof.Rows.isStrOf k) = ns.countP (· == k) := count_strs k hi
  refine ⟨.int (ns.countP (· == k) : Nat), H, I.tok _, ⟨s.toks, ?_⟩, q⟩
  show Value.int ((its.toArray.toList.countP (PyProof.Rows.isStrOf k) : Nat) : Int) s.toks = Value.int ((ns.countP (· == k) : Nat) : Int) s.toks
  rw [ec]
end
end PySem.EnT

set_option Elab.async false
set_option linter.all false
set_option maxRecDepth 100000
set_option maxHeartbeats 2000000
/-! sets of keys (ints, texts) as lists without order: made, added to, walked -/
namespace PySem.GsX
open PySem PySem.Spec PyProof.Rows PySem.W PySem.Calls L2 PpSet
open Classical in
noncomputable def addL (ks : List Key) (k : Key) : List Key := if k ∈ ks then ks else k :: ks
theorem addL_in {ks : List Key} {k : Key} (h : k ∈ ks) : addL ks k = ks := by unfold addL; rw [if_pos h]
theorem addL_new {ks : List Key} {k : Key} (h : k ∉ ks) : addL ks k = k :: ks := by unfold addL; rw [if_neg h]
/-- an entry that stands for the key k -/
def Ent (P : Program) (w : World) (e : Int × Value) (k : Key) : Prop := (mixKind P w).is k e.2 = true ∧ e.1 = (mixKind P w).hash k ∧ e.2.scannable = true
/-- the set at a: ks its members, in no order -/
def SetG (P : Program) (w : World) (h : Heap) (a : Addr) (ks : List Key) : Prop :=
  ∃ o es ep t, h.get? a = some o ∧ o.ExactSet ∧ o.data = .set es ep t ∧ (∃ l, l.Perm ks ∧ Paired (Ent P w) es.toList l) ∧ ks.Nodup ∧ es.size < scanBound ∧ t.fits es.size = true ∧ Ris t.place.toList ∧ (w.params.followText "set-order" = true ∨ t.led = true)
section
variable {P : Program} {w : World} {h h' : Heap} {a : Addr} {ks : List Key}
theorem SetG.at (R : SetG P w h a ks) (k : ∀ o, h.get? a = some o → h'.get? a = some o) : SetG P w h' a ks := by
  obtain ⟨o, es, ep, t, ho, r⟩ := R
  exact ⟨o, es, ep, t, k o ho, r⟩
theorem ent_elems : ∀ {es : List (Int × Value)} {l : List Key}, Paired (Ent P w) es l → ElemsOf (mixKind P w) es
  | _, _, .nil, e, he => by cases he
  | _, _, .cons q r, e, he => by
    rcases List.mem_cons.mp he with rfl | he
    · exact ⟨⟨_, q.1, q.2.1⟩, q.2.2⟩
    · exact ent_elems r e he
theorem ent_mem {k : Key} : ∀ {es : List (Int × Value)} {l : List Key}, Paired (Ent P w) es l → (k ∈ l ↔ ∃ e ∈ es, (mixKind P w).is k e.2 = true)
  | _, _, .nil => ⟨fun z => (by cases z), fun z => by obtain ⟨_, z, _⟩ := z; cases z⟩
  | e :: es, x :: l, .cons q r => by
    rw [List.mem_cons, ent_mem r]
    constructor
    · rintro (rfl | ⟨u, h1, h2⟩)
      · exact ⟨e, List.mem_cons_self, q.1⟩
      · exact ⟨u, List.mem_cons_of_mem _ h1, h2⟩
    · rintro ⟨u, h1, h2⟩
      rcases List.mem_cons.mp h1 with rfl | h1
      · exact .inl ((mixKind P w).inj _ _ _ h2 q.1)
      · exact .inr ⟨u, h1, h2⟩
/-- entries moved: their keys move along -/
theorem ent_perm {es es' : List (Int × Value)} (p : es'.Perm es) : ∀ {l : List Key}, Paired (Ent P w) es l → ∃ l', l'.Perm l ∧ Paired (Ent P w) es' l' := by
  induction p with
  | nil =>
    intro l q
    exact ⟨l, List.Perm.refl _, q⟩
  | cons x _ ih =>
    intro l q
    cases q with
    | cons q r =>
      obtain ⟨l', h1, h2⟩ := ih r
      exact ⟨_ :: l', h1.cons _, .cons q h2⟩
  | swap x y r =>
    intro l q
    cases q with
    | cons q1 q =>
      cases q with
      | cons q2 q => exact ⟨_ :: _ :: _, List.Perm.swap _ _ _, .cons q2 (.cons q1 q)⟩
  | trans _ _ i1 i2 =>
    intro l q
    obtain ⟨l1, h1, h2⟩ := i2 q
    obtain ⟨l2, h3, h4⟩ := i1 h2
    exact ⟨l2, h3.trans h1, h4⟩
theorem set_fresh : SetG P w (h.push { cls := .type "set", dict := none, data := .set #[] 0 (.fresh 0 0 (!w.params.followText "set-order")) }) h.objs.size [] :=
  ⟨_, #[], 0, _, Heap.get?_push_size _ rfl, ⟨rfl, rfl, rfl⟩, rfl, ⟨[], List.Perm.refl _, .nil⟩, List.nodup_nil, by decide, by rfl, List.Pairwise.nil, by
    show _ ∨ (!w.params.followText "set-order") = true
    cases w.params.followText "set-order" with
    | true => exact .inl rfl
    | false => exact .inr rfl⟩
end
section
variable {P : Program} {w : World} {A : Around} {E : Value → Shared → Prop} {s : Shared} {a : Addr} {ks : List Key}
theorem put_at {h : Heap} {o : Obj} {es es' : Array (Int × Value)} {ep : Nat} {t t' : SetTable} (ho : h.get? a = some o) (hd : o.data = .set es ep t) : (h.update a (Obj.putSet es' t')).get? a = some { o with data := .set es' (ep + 1) t' } := by
  have := Heap.get?_update_self (Obj.putSet es' t') ho
  rw [putSet_of es' t' hd] at this
  exact this rfl
/-- the end of an add: the entries stored, perhaps laid anew in a larger table -/
theorem add_end {gv : Bool → Sem Unit} (hgv : ∀ (b : Bool) (s₁ : Shared) (Q' : Unit → Shared → Prop), Q' () s₁ → wpAny (model P w) A (gv b) Q' E s₁) {o : Obj} {es es1 : Array (Int × Value)} {ep : Nat} {t t1 : SetTable} {wd : Bool} {R : Option Bool → Shared → Prop}
    (ho : s.heap.get? a = some o) (hx : o.ExactSet) (hd : o.data = .set es ep t) (hl : ∃ l, l.Perm ks ∧ Paired (Ent P w) es1.toList l) (nd : ks.Nodup) (hb : es1.size < scanBound) (hf : t1.fits es1.size = true) (hr : Ris t1.place.toList)
    (hle : w.params.followText "set-order" = true ∨ t1.led = true) (hR : ∀ h', Heap.SameBut a s.heap h' → SetG P w h' a ks → R (some true) { s with heap := h' }) :
    wpAny (model P w) A (do
      storeSet a es1 t1
      if (!wd && t1.tooFull) = true then do
          gv (relayAll t1 es1 (SetTable.grown es1.size)).2.2
          storeSet a (relayAll t1 es1 (SetTable.grown es1.size)).1 (relayAll t1 es1 (SetTable.grown es1.size)).2.1
          pure (some true)
        else pure (some true)) R E s := by
  have q1 := put_at (es' := es1) (t' := t1) ho hd
  have b1 := Heap.SameBut.update s.heap a (Obj.putSet es1 t1)
  refine wpAny_bind (wpAny_storeSet_of ho hd ?_ (fits_of_scanBound hb))
  by_cases hc : (!wd && t1.tooFull) = true
  · rw [if_pos hc]
    obtain ⟨l, hp, hl⟩ := hl
    obtain ⟨l', hp', hl'⟩ := ent_perm (relayAll_perm t1 es1 (SetTable.grown es1.size)) hl
    have z : (relayAll t1 es1 (SetTable.grown es1.size)).1.size < scanBound := by
      rw [← Array.length_toList, (relayAll_perm t1 es1 (SetTable.grown es1.size)).length_eq, Array.length_toList]
      exact hb
    refine wpAny_bind (hgv _ _ _ (wpAny_bind (wpAny_storeSet_of q1 rfl ?_ (fits_of_scanBound z))))
    refine wpAny_pure (hR _ (b1.trans (Heap.SameBut.update _ a _)) ⟨_, _, _, _, put_at q1 rfl, hx, rfl, ⟨l', hp'.trans hp, hl'⟩, nd, z, relayAll_fits .., relayAll_ris .., ?_⟩)
    rcases hle with e | e
    · exact .inl e
    · exact .inr ((relayAll_led ..).trans e)
  · rw [if_neg hc]
    exact wpAny_pure (hR _ b1 ⟨_, es1, _, t1, q1, hx, rfl, hl, nd, hb, hf, hr, hle⟩)
theorem add_key {k : Key} {u : Value} {Q : Bool → Shared → Prop} (R : SetG P w s.heap a ks) (hk : (mixKind P w).is k u = true) (hsc : u.scannable = true) (room : ks.length + 1 < scanBound)
    (hQ : ∀ b h', Heap.SameBut a s.heap h' → SetG P w h' a (addL ks k) → Q b { s with heap := h' }) : wpAny (model P w) A (setAddHashed a u ((mixKind P w).hash k)) Q E s := by
  obtain ⟨o, es, ep, t, ho, hx, hd, ⟨l, hp, hl⟩, nd, hb, hf, hr, hle⟩ := id R
  have hel := ent_elems hl
  unfold setAddHashed setAddHashedIn
  refine wpAny_holding (wpAny_bind (wpAny_setState_of ho hd hf ?_))
  dsimp only
  rw [byScan_of hsc hb hel]
  simp only [↓reduceIte]
  unfold setAddByScan
  refine wpAny_bind (wpAny_bind (wpAny_rule (wpAny_bind (wpAny_setScan_of hk ho hd hf hel ?_))))
  cases hfi : List.findIdx? (fun e => (mixKind P w).is k e.2) es.toList with
  | some j =>
    dsimp only
    obtain ⟨hj, pj, _⟩ := List.findIdx?_eq_some_iff_getElem.mp hfi
    have hm : k ∈ ks := hp.mem_iff.mp ((ent_mem hl).mpr ⟨_, List.getElem_mem hj, pj⟩)
    have := hQ false s.heap (Heap.SameBut.refl a s.heap)
    rw [addL_in hm] at this
    exact wpAny_pure (wpAny_pure (this R))
  | none =>
    dsimp only
    have hm : k ∉ ks := fun z => by
      obtain ⟨e, he, q⟩ := (ent_mem hl).mp (hp.mem_iff.mpr z)
      have := List.findIdx?_eq_none_iff.mp hfi e he
      rw [q] at this
      cases this
    have pm := layNew_perm t es ((mixKind P w).hash k) u
    have pc : (layNew t es ((mixKind P w).hash k) u).1.toList.Perm (((mixKind P w).hash k, u) :: es.toList) := by
      rw [Array.toList_push] at pm
      exact pm.trans (List.perm_append_singleton _ _)
    obtain ⟨l', hp', hl'⟩ := ent_perm pc (l := k :: l) (.cons ⟨hk, rfl, hsc⟩ hl)
    have f1 := layNew_fits t es ((mixKind P w).hash k) u
    have r1 := layNew_ris t es ((mixKind P w).hash k) u hr
    have e1 := layNew_led t es ((mixKind P w).hash k) u
    have z1 : (layNew t es ((mixKind P w).hash k) u).1.size < scanBound := by
      rw [← Array.length_toList, pc.length_eq, List.length_cons, Paired.length hl, hp.length_eq]
      exact room
    generalize layNew t es ((mixKind P w).hash k) u = Z at pm pc hl' f1 r1 e1 z1 ⊢
    obtain ⟨es1, t1, wd, gave⟩ := Z
    dsimp only at pm pc hl' f1 r1 e1 z1 ⊢
    have rl : ∀ (b : Bool) (s₁ : Shared) (Q' : Unit → Shared → Prop), Q' () s₁ → wpAny (model P w) A (match b with | true => rule "set.scan.the-table-gave-way" | false => pure ()) Q' E s₁ := fun b s₁ Q' q => by
      cases b
      · exact wpAny_pure q
      · exact wpAny_rule q
    have le1 : w.params.followText "set-order" = true ∨ t1.led = true := by
      rcases hle with e | e
      · exact .inl e
      · exact .inr (e1.trans e)
    have fin : ∀ h', Heap.SameBut a s.heap h' → SetG P w h' a (k :: ks) → Q true { s with heap := h' } := fun h' sb r => by
      have := hQ true h' sb
      rw [addL_new hm] at this
      exact this r
    have nd1 : (k :: ks).Nodup := List.nodup_cons.mpr ⟨hm, nd⟩
    have hl1 : ∃ l, l.Perm (k :: ks) ∧ Paired (Ent P w) es1.toList l := ⟨l', hp'.trans (hp.cons k), hl'⟩
    refine wpAny_bind (rl _ _ _ ?_)
    split
    · refine wpAny_bind ?_
      rw [hashByValue_scannable 8 hsc]
      refine wpAny_pure (add_end ?_ ho hx hd hl1 nd1 z1 ?_ ?_ ?_ fun h' sb r => wpAny_pure (fin h' sb r))
      · intro b s₁ Q' q
        cases b
        · exact wpAny_pure q
        · exact wpAny_rule q
      · first
          | exact f1
          | (split <;> first | exact f1 | exact SetTable.fits_plain_off f1)
      · first
          | exact r1
          | (split <;> exact r1)
      · first
          | exact le1
          | (split <;> exact le1)
    · refine wpAny_bind (wpAny_pure ?_)
      simp only [↓reduceIte]
      refine add_end ?_ ho hx hd hl1 nd1 z1 f1 r1 le1 fun h' sb r => wpAny_pure (fin h' sb r)
      intro b s₁ Q' q
      cases b
      · exact wpAny_pure q
      · exact wpAny_rule q
theorem set_add {k : Key} {u : Value} {Q : Value → Shared → Prop} (R : SetG P w s.heap a ks) (hk : (mixKind P w).is k u = true) (hsc : u.scannable = true) (room : ks.length + 1 < scanBound)
    (hQ : ∀ h', Heap.SameBut a s.heap h' → SetG P w h' a (addL ks k) → Q .none { s with heap := h', toks := s.toks + 1 }) : wpAny (model P w) A (call (.builtin "set.add") [.ref a, u]) Q E s := by
  obtain ⟨o, es, ep, t, ho, hx, _⟩ := id R
  refine wpAny_call_entry F.slot_set_add (show s.TypeIs (.ref a) "set" from ⟨o, ho, hx.1⟩) F.entry_set_add ?_ (F.args_set_add_2 _ _)
  unfold Builtin.«set.add» Builtin.Frozenset.oneOther Builtin.Frozenset.addrOf setAdd
  simp only [List.isEmpty_nil, bind_assoc]
  refine wpAny_bind (wpAny_pure ?_)
  try dsimp only
  refine wpAny_bind (wpAny_pure ?_)
  try dsimp only
  refine wpAny_bind (wpAny_holding (wpAny_bind ((mixKind P w).pyHash hk (add_key (s := { s with toks := s.toks + 1 }) R hk hsc room fun b h' sb r => ?_))))
  exact wpAny_pure ⟨_, rfl, hQ h' sb r⟩
end
/-! ### as tracked things -/
def SetO (P : Program) (w : World) (a : Addr) (ks : List Key) : HO := .ext fun h => SetG P w h a ks
theorem setO_ok {P : Program} {w : World} {H : Hp} {h : Heap} {a : Addr} {ks : List Key} (R : SetG P w h a ks) : ObjOk P w H h a (SetO P w a ks) := by
  have ⟨o, _, _, _, ho, _⟩ := R
  exact ⟨R, ⟨o, ho⟩, fun h1 h2 p k => SetG.at p k⟩
section
variable {X : Cx} {pins : List (Addr × Obj)} {σ : L2.St} {H : Hp} {s : Shared} {E : Value → Shared → Prop} {a : Addr} {ks : List Key}
theorem setO_at (I : Inv X pins σ H s) (ha : H a = some (SetO X.prog X.w a ks)) : SetG X.prog X.w s.heap a ks := (I.hok a _ ha).1
theorem add_ok {k : Key} {u : Value} {Q : Value → Shared → Prop} (I : Inv X pins σ H s) (ha : H a = some (SetO X.prog X.w a ks)) (r : RelV (kV k) u) (room : ks.length + 1 < scanBound)
    (h : ∀ s', Inv X pins σ (upd H a (SetO X.prog X.w a (addL ks k))) s' → Q .none s') : wpAny (model X.prog X.w) X.A (call (.builtin "set.add") [.ref a, u]) Q E s := by
  refine set_add (setO_at I ha) (kV_is r) (key_scan r) room fun h' sb new => h _ (I.write (e := a) (t' := s.toks + 1) (by rw [ha]; trivial) (.inl rfl) (fun b u hb hu => (sb.2 b hb).trans hu) ?_ (setO_ok new))
  have ⟨o, _, _, _, ho, _⟩ := new
  exact ⟨o, ho⟩
theorem set_new {Q : Value → Shared → Prop} (I : Inv X pins σ H s) (h : ∀ p s', H p = none → p = s.heap.objs.size → s' = { s with heap := s.heap.push { cls := .type "set", dict := none, data := .set #[] 0 (.fresh 0 0 (!X.w.params.followText "set-order")) } } → Inv X pins σ (upd H p (SetO X.prog X.w p [])) s' → Q (.ref p) s') :
    wpAny (model X.prog X.w) X.A (newSet (.type "set")) Q E s :=
  newSet_ok (h _ _ (I.hok.fresh (Nat.le_refl _)) rfl rfl (I.laid (t' := s.toks) (fun b o e => Heap.get?_push_of_some _ e) (Nat.le_refl _) (setO_ok set_fresh)))
end
end PySem.GsX

set_option Elab.async false
set_option linter.all false
set_option maxRecDepth 100000
set_option maxHeartbeats 4000000
/-! {e for x in it if t}: a set of keys -/
namespace GsY
open PySem PySem.Spec PyProof.Rows L2 PpSet PySem.GsX
/-- what one turn does with its element: it is a key, and D grows -/
def grow (P : Program) (w : World) (D : Addr) (N : Hp → Prop) : VK := fun y G => ∃ (k : Key) (ks : List Key), y = kV k ∧ G D = some (SetO P w D ks) ∧ ks.length + 1 < scanBound ∧ N (upd G D (SetO P w D (addL ks k)))
/-- a turn: the target set, the test asked, the element (where the test is true) -/
def turnK (P : Program) (w : World) (g : TG) (tt : TT) (te : TE) (ws : List Nat) (D : Addr) (σ : L2.St) (x : V) (G : Hp) (N : Hp → Prop) : Prop :=
  g x (wipe σ ws) G fun σ2 G2 => wipe σ2 ws = wipe σ ws ∧ tt σ2 G2 fun b G3 => if b = true then te σ2 G3 (grow P w D N) else N G3
def tScK (P : Program) (w : World) (wi : TI) (g : TG) (tt : TT) (te : TE) (ws : List Nat) : TE := fun σ H Q => wi σ H fun J H1 => ∀ D, H1 D = none → ∃ W : Nat → Nat → Hp → Prop, (∃ m, W 0 m (upd H1 D (SetO P w D []))) ∧
  ∀ i m G, W i m G → (J.stop i G ∧ Q (.ref D) G) ∨ (J.go i G ∧ ∃ N : Hp → Prop, (∀ G', N G' → ∃ m', m' < m ∧ W (i + 1) m' G') ∧ ∀ x G', J.yld i G x G' → turnK P w g tt te ws D σ x G' N)
section
variable {X : Cx}
theorem pe_scK {elt tg iter : Expr} {ifs : List Expr} {scope : Scope} {own : List (PySem.Str × Nat)} {pos : Pos} {wi : TI} {g : TG} {tt : TT} {te : TE} (hc : X.calm = true) (hN : X.N.Nodup) (hi : PI X tg iter wi) (ok : BlkOk X.N X.env.scope scope own)
    (hg : ∀ (s : Shared) (H : Hp) (C : Addr) (cl : List (PySem.Str × Addr)) (fp : List Addr), PG (X.blk s H scope (compEnvC scope cl C X.env) fp) tg g)
    (ht : ∀ (s : Shared) (H : Hp) (C : Addr) (cl : List (PySem.Str × Addr)) (fp : List Addr), PTs (X.blk s H scope (compEnvC scope cl C X.env) fp) ifs tt)
    (he : ∀ (s : Shared) (H : Hp) (C : Addr) (cl : List (PySem.Str × Addr)) (fp : List Addr), PE (X.blk s H scope (compEnvC scope cl C X.env) fp) elt te)
    (hs : ∀ x, foldedSetIterable iter X.env x = pure x := by intro _; rfl) : PE X (.SetComp elt [⟨tg, iter, ifs, 0⟩] scope pos) (tScK X.prog X.w wi g tt te (own.map (·.2))) := by
  refine ⟨fun pins s σ H Q I h => ?_⟩
  rw [eval_SetComp]
  have hfr : ∀ y ∈ scope.names, y.2 = .free → ∃ c, X.env.cells.lookup y.1 = some c := fun y hy e => I.ok.has _ (ok.free y hy e)
  refine wpAny_comprehension_free rfl hs (closure_ok hfr) ok.kind (fun y hy e => by rw [ok.uniq y hy, e]) (thn (hi.run pins s σ H _ I h) fun xv s1 hx => thn hx fun itv s2 ⟨it, fp, tn, J, H2, eit, I2, T, st2, f2, q⟩ => ?_)
  subst eit
  refine set_new I2 fun D s3 hDn hD hs3 I3 => newEnv_comp ?_
  obtain ⟨W, ⟨m0, w0⟩, turn⟩ := q D hDn
  have kp : ∀ b o, s2.heap.get? b = some o → s3.heap.get? b = some o := fun b o e => by
    rw [hs3]
    exact Heap.get?_push_of_some _ e
  have lt2 : ∀ b ∈ fp, b < s2.heap.objs.size := fun b hb => by
    obtain ⟨o, e, _⟩ := T.obj _ _ st2 b hb
    exact Heap.lt_size e
  have f3 : ∀ b ∈ fp, FpOk X pins (upd H2 D (SetO X.prog X.w D [])) b ∧ b < s3.heap.objs.size := fun b hb => by
    refine ⟨⟨?_, (f2 b hb).2⟩, ?_⟩
    · rw [upd_ne (by rw [hD]; exact Nat.ne_of_lt (lt2 b hb))]
      exact (f2 b hb).1
    · rw [hs3]
      show b < (s2.heap.push _).objs.size
      rw [Heap.size_push]
      exact Nat.lt_succ_of_lt (lt2 b hb)
  have st3 : tn 0 s3.heap := T.keep _ _ _ st2 fun b _ o e => kp b o e
  have I4 := block_start I3 ok hN f3
  have pg := hg s3 (upd H2 D (SetO X.prog X.w D [])) s3.heap.objs.size (cellsFrom (s3.heap.objs.size + 1) scope.names (cloFrom X.env.cells scope.names [])) fp
  have pt := ht s3 (upd H2 D (SetO X.prog X.w D [])) s3.heap.objs.size (cellsFrom (s3.heap.objs.size + 1) scope.names (cloFrom X.env.cells scope.names [])) fp
  have pe := he s3 (upd H2 D (SetO X.prog X.w D [])) s3.heap.objs.size (cellsFrom (s3.heap.objs.size + 1) scope.names (cloFrom X.env.cells scope.names [])) fp
  show codeAny _ _ (.compStart (.SetComp elt [⟨tg, iter, ifs, 0⟩] scope pos) 0 (.ref it) (.ref D) (compEnvC scope (cellsFrom (s3.heap.objs.size + 1) scope.names (cloFrom X.env.cells scope.names [])) s3.heap.objs.size X.env)) _ _
  have hcl : (compEnvC scope (cellsFrom (s3.heap.objs.size + 1) scope.names (cloFrom X.env.cells scope.names [])) s3.heap.objs.size X.env).locals = s3.heap.objs.size := rfl
  generalize compEnvC scope (cellsFrom (s3.heap.objs.size + 1) scope.names (cloFrom X.env.cells scope.names [])) s3.heap.objs.size X.env = ce at I4 pg pt pe hcl ⊢
  generalize hH3 : upd H2 D (SetO X.prog X.w D []) = H3 at I3 I4 pg pt pe w0 f3
  have nf : ∀ b ∈ fp, H3 b = none := fun b hb => (f3 b hb).1.1
  obtain ⟨s4, hs4⟩ : ∃ s4, s4 = ({ s3 with heap := pushCells (s3.heap.push { cls := .type "dict", data := .dict #[] }) scope.names } : Shared) := ⟨_, rfl⟩
  rw [← hs4] at I4 ⊢
  have st4 : tn 0 s4.heap := T.keep _ _ _ st3 fun b _ o e => by
    rw [hs4]
    exact pushCells_keeps _ _ _ _ (Heap.get?_push_of_some _ e)
  clear hs4
  have free : ∀ {τ : L2.St} {G : Hp} {t : Shared}, Inv (X.blk s3 H3 scope ce fp) [] τ G t → (∀ b ∈ fp, G b = none) → ∀ b ∈ fp, FpOk (X.blk s3 H3 scope ce fp) [] G b := fun {τ G t} Z zn b hb =>
    ⟨zn b hb, (Z.ok.exf b hb).1, Z.ok.exfs b hb, .inl hb, fun y c e => (Z.ok.exf b hb).2 y c e, fun p hp => by cases hp⟩
  have loop : codeAny (model X.prog X.w) X.A (.compLoop (.SetComp elt [⟨tg, iter, ifs, 0⟩] scope pos) 0 (.ref it) (.ref D) ce) (compPost (model X.prog X.w) X.A X.xe none (EP X pins σ Q) (.ref D) s3.heap.objs.size) s4 := by
    refine compLoopS_any (fun n t => ∃ i G, Inv (X.blk s3 H3 scope ce fp) [] (wipe σ (own.map (·.2))) G t ∧ tn i t.heap ∧ (∀ b ∈ fp, G b = none) ∧ W i n G) (fun n t hI => ?_) m0 ⟨0, H3, I4, st4, nf, w0⟩
    obtain ⟨i, G, Z, sti, zn, wi'⟩ := hI
    rcases turn i n G wi' with ⟨stop, qD⟩ | ⟨go, N, hN', stp⟩
    · refine thnF (T.done (X.blk s3 H3 scope ce fp) rfl rfl rfl hc i [] t _ G (fun _ _ => False) Z (free Z zn) sti stop) fun r t1 ⟨hr, Z1⟩ => ?_
      subst hr
      have Y : Inv X pins σ G t1 := I3.call' (ch := fp) Z1.os Z1.base Z1.hok Z1.bare fun b hb => ⟨(f3 b hb).1.2.2.2.1, (f3 b hb).1.2.1, (f3 b hb).1.2.2.2.2.1, (f3 b hb).1.2.2.2.2.2⟩
      have nC : G s3.heap.objs.size = none := hcl ▸ (show G ce.locals = none from Z1.free)
      obtain ⟨m, hn, _⟩ := Z1.loc
      obtain ⟨a0, a1, a2, a3, a4, a5⟩ := I3.fpOk (Nat.le_refl _) nC
      exact ⟨m, hcl ▸ (show t1.heap.Ns ce.locals m from hn), fun h'' sb => ⟨.ref D, G, Y.turned (t' := t1.toks) (fun b o hb e => (sb.2 b hb).trans e) a0 a1 a3 a4 a5, rfl, qD⟩⟩
    · refine thnF (T.item (X.blk s3 H3 scope ce fp) rfl rfl rfl hc i [] t _ G (fun _ _ => False) Z (free Z zn) sti go) fun r t1 ⟨u, hr, hu⟩ => ?_
      subst hr
      refine thnF hu fun _ t2 ⟨x, G2, Z2, rx, yx, st5, zn2⟩ => ?_
      have Z2' := Z2.pinned (free Z2 zn2) (T.obj _ _ st5)
      refine thnF (pg.run _ t2 _ G2 x u _ Z2' rx (stp x G2 yx)) fun _ t3 ⟨τ, G3, Z3, hw, q3⟩ => thnF (pt.run _ t3 τ G3 _ Z3 q3) fun b t4 ⟨G4, Z4, q4⟩ => ?_
      have next : ∀ {t5 : Shared} {G5 : Hp}, Inv (X.blk s3 H3 scope ce fp) ([] ++ pinsAt fp t2.heap) τ G5 t5 → N G5 → ∃ m, m < n ∧ ∃ i G, Inv (X.blk s3 H3 scope ce fp) [] (wipe σ (own.map (·.2))) G t5 ∧ tn i t5.heap ∧ (∀ b ∈ fp, G b = none) ∧ W i m G := fun {t5 G5} Y nx => by
        obtain ⟨m', hm, w'⟩ := hN' G5 nx
        have pin : ∀ b ∈ fp, ∀ o, t2.heap.get? b = some o → t5.heap.get? b = some o ∧ G5 b = none := fun b hb o e => by
          obtain ⟨z1, z2, _⟩ := Y.pin (b, o) (List.mem_append_right _ (List.mem_append_right _ (mem_pinsAt hb e)))
          exact ⟨z1, z2⟩
        refine ⟨m', hm, i + 1, G5, (Y.unpinned (pins := [])).weak (by rw [← hw, wipe_length]) (fun j v e => ?_), T.keep _ _ _ st5 fun b hb o e => (pin b hb o e).1, fun b hb => ?_, w'⟩
        · rw [← hw] at e
          exact (wipe_some e).1
        · obtain ⟨o, e, _⟩ := T.obj _ _ st5 b hb
          exact (pin b hb o e).2
      cases b with
      | false =>
        rw [if_neg Bool.false_ne_true] at q4
        rw [if_neg Bool.false_ne_true]
        exact next Z4 q4
      | true =>
        rw [if_pos rfl] at q4
        rw [if_pos rfl]
        refine thnF (pe.run _ t4 τ G4 _ Z4 q4) fun z t5 ⟨y, G5, Z5, ry, k, ks, ey, hDk, room, nx⟩ => ?_
        subst ey
        exact add_ok (X := X.blk s3 H3 scope ce fp) Z5 hDk ry room fun t6 Z6 => next Z6 nx
  exact codeAny_compStart_set loop (T.self X.A 0 _ _ _ st4 loop)
end
/-- over anything that a walk serves -/
theorem sc_it {P : Program} {w : World} {J : It} {n : Nat} {G : Hp → Prop} {Y : Nat → Hp → V → Hp → Prop} (wk : Walk J n G Y) {g : TG} {tt : TT} {te : TE} {ws : List Nat} {σ : L2.St} {H1 : Hp} {D : Addr} {Qd : Hp → Prop} (Pv : Nat → Hp → Prop) (h0 : Pv 0 (upd H1 D (SetO P w D [])))
    (hG : ∀ i H, i ≤ n → Pv i H → G H) (hs : ∀ i x H H', i < n → Pv i H → Y i H x H' → turnK P w g tt te ws D σ x H' (Pv (i + 1))) (hd : ∀ H, Pv n H → Qd H) :
    ∃ W : Nat → Nat → Hp → Prop, (∃ m, W 0 m (upd H1 D (SetO P w D []))) ∧ ∀ i m H, W i m H → (J.stop i H ∧ Qd H) ∨ (J.go i H ∧ ∃ N : Hp → Prop, (∀ H', N H' → ∃ m', m' < m ∧ W (i + 1) m' H') ∧ ∀ x H', J.yld i H x H' → turnK P w g tt te ws D σ x H' N) := by
  refine ⟨fun i m H => m + i = n ∧ Pv i H, ⟨n, by omega, h0⟩, fun i m H ⟨e, p⟩ => ?_⟩
  have q := hG i H (by omega) p
  by_cases hlt : i < n
  · exact .inr ⟨wk.goes i H hlt q, Pv (i + 1), fun H' p' => ⟨m - 1, by omega, by omega, p'⟩, fun x H' y => hs i x H H' hlt p (wk.yields i H x H' hlt q y)⟩
  · have e2 : i = n := by omega
    subst e2
    exact .inl ⟨wk.stops H q, hd H p⟩
end GsY

set_option Elab.async false
set_option linter.all false
set_option maxRecDepth 100000
set_option maxHeartbeats 4000000
/-! sorted(a set of texts) -/
namespace PySem.GsX
open PySem PySem.Spec PyProof.Rows PySem.W PySem.Calls L2 PpSet
theorem ent_strs {P : Program} {w : World} : ∀ {es : List (Int × Value)} {xs : List Str}, Paired (Ent P w) es (xs.map Sum.inr) → StrsAre (es.map (·.2)) xs
  | [], [], .nil => .nil
  | e :: es, x :: xs, .cons q r => by
    obtain ⟨n, v⟩ := e
    rcases keyIs_shape (show keyIs (Sum.inr x) v = true from q.1) with ⟨i, t, z, _⟩ | ⟨y, t, z1, z2⟩
    · cases z
    · cases z1
      subst z2
      exact .cons x t (ent_strs r)
theorem strs_perm {vs us : List Value} (p : vs.Perm us) : ∀ {xs : List Str}, StrsAre us xs → ∃ ys, ys.Perm xs ∧ StrsAre vs ys := by
  induction p with
  | nil =>
    intro xs h
    exact ⟨xs, List.Perm.refl _, h⟩
  | cons v _ ih =>
    intro xs h
    cases h with
    | cons y t r =>
      obtain ⟨ys, h1, h2⟩ := ih r
      exact ⟨y :: ys, h1.cons _, .cons y t h2⟩
  | swap x y l =>
    intro xs h
    cases h with
    | cons y1 t1 r =>
      cases r with
      | cons y2 t2 r => exact ⟨_, List.Perm.swap _ _ _, .cons y2 t2 (.cons y1 t1 r)⟩
  | trans _ _ i1 i2 =>
    intro xs h
    obtain ⟨l1, h1, h2⟩ := i2 h
    obtain ⟨l2, h3, h4⟩ := i1 h2
    exact ⟨l2, h3.trans h1, h4⟩
theorem perm_inr : ∀ {l : List Key} {xs : List Str}, l.Perm (xs.map Sum.inr) → ∃ ys : List Str, l = ys.map Sum.inr ∧ ys.Perm xs := fun {l xs} p => by
  have h : ∀ k ∈ l, ∃ y : Str, k = Sum.inr y := fun k hk => by
    obtain ⟨y, _, e⟩ := List.mem_map.mp (p.mem_iff.mp hk)
    exact ⟨y, e.symm⟩
  obtain ⟨ys, rfl⟩ : ∃ ys : List Str, l = ys.map Sum.inr := by
    clear p
    induction l with
    | nil => exact ⟨[], rfl⟩
    | cons k l ih =>
      obtain ⟨y, rfl⟩ := h k List.mem_cons_self
      obtain ⟨ys, rfl⟩ := ih fun j hj => h j (List.mem_cons_of_mem _ hj)
      exact ⟨y :: ys, rfl⟩
  refine ⟨ys, rfl, ?_⟩
  have q := p.map fun k : Key => match k with | .inr y => y | .inl _ => Str.empty
  rw [List.map_map, List.map_map] at q
  have e : ∀ zs : List Str, zs.map ((fun k : Key => match k with | .inr y => y | .inl _ => Str.empty) ∘ Sum.inr) = zs := fun zs => List.map_id zs
  rw [e, e] at q
  exact q
theorem sorted_texts {P : Program} {w : World} {A : Around} {E : Value → Shared → Prop} {s : Shared} {a : Addr} {xs : List Str} {Q : Value → Shared → Prop} (R : SetG P w s.heap a (xs.map Sum.inr)) (hh : A.handled = none) (h64 : xs.length < 64)
    (hQ : ∀ s' p (out : Array Value) (c : Nat) (ys : List Str), (∀ b o, s.heap.get? b = some o → s'.heap.get? b = some o) → s'.gens = s.gens → s'.os = s.os → s.heap.objs.size ≤ p → s'.heap.get? p = some (seqObj "list" out c) → StrsAre out.toList ys → ys.Perm xs → sortedS ys = true → Q (.ref p) s') :
    wpAny (model P w) A (call (.builtin "sorted") [.ref a]) Q E s := by
  obtain ⟨o, es, ep, t, ho, hx, hd, ⟨l, hp, hl⟩, nd, hb, hf, hr, hle⟩ := R
  obtain ⟨zs, rfl, hz⟩ := perm_inr hp
  have hS := ent_strs hl
  refine Calls.call_function_entry kind_sorted plain_sorted entry_sorted (args_sorted1 _) (?_ : wpAny _ _ (Builtin.«sorted» _) _ _ _)
  unfold Builtin.«sorted»
  refine wpAny_bind (m := checkCount "sorted" 1 1 _) (wpAny_pure (wpAny_bind (collect_set (A := A.in1) hh ⟨o, ho, hx.1, hd⟩ hf hb hr hle fun s1 vs k1 hz1 g1 o1 pm => ?_)))
  obtain ⟨ys, hy, hV⟩ := strs_perm pm hS
  have hl64 : vs.length < 64 := by
    rw [hV.length]
    rw [hy.length_eq, hz.length_eq]
    exact h64
  refine wpAny_bind (wpAny_newList ?_ (by rw [sizeLine_eq]; omega))
  have hob : (s1.heap.push (seqObj "list" vs.toArray 0)).get? s1.heap.objs.size = some (seqObj "list" vs.toArray 0) := Heap.get?_push_size _ rfl
  refine wpAny_bind (wpAny_holding (wpAny_call_entry slot_list_sort ⟨_, hob, rfl⟩ entry_list_sort (list_sort_treeK strKind_oneLt hob hV.keysOf (fun v₁ v₂ rest e => keyKind_strs (by rw [← e]; exact hV)) hl64 fun st' a1 a2 => ⟨_, rfl, ?_⟩) (args_list_sort _)))
  obtain ⟨ys', b1, b2, b3⟩ := sorted_out_str hV a1 a2
  obtain ⟨c, hc⟩ := sortedHeap_at (vs := vs) (out := (arrOf st').map (·.2)) hob
  refine wpAny_pure ⟨_, rfl, hQ _ s1.heap.objs.size _ c ys' (fun b u e => ?_) g1 o1 hz1 hc b1 (b2.trans (hy.trans hz)) b3⟩
  have q := k1 b u e
  have lt := Heap.lt_size q
  show (sortedHeap (s1.heap.push (seqObj "list" vs.toArray 0)) s1.heap.objs.size vs ((arrOf st').map (·.2))).get? b = some u
  rw [sortedHeap_old (Nat.ne_of_lt lt) (by rw [size_push']; exact Nat.lt_succ_of_lt lt)]
  exact Heap.get?_push_of_some _ q
end PySem.GsX
namespace GsY
open PySem PySem.Spec PyProof.Rows L2 PySem.GsX
/-- sorted(a set of texts) -/
theorem cr_sortedT {X : Cx} (hc : X.calm = true) : CallR X (.builtin "sorted") (fun vs H Q => ∃ (a : Addr) (xs : List Str), vs = [.ref a] ∧ H a = some (SetO X.prog X.w a (xs.map Sum.inr)) ∧ xs.length < 64 ∧ ∀ ys p, ys.Perm xs → sortedS ys = true → H p = none → Q (.ref p) (upd H p (.lst (ys.map V.str)))) := by
  intro pins s σ H vs us Q I r ⟨a, xs, ev, ha, h64, q⟩
  subst ev
  rw [Vals.ref1 r]
  refine sorted_texts (setO_at I ha) (I.ok.hd hc) h64 fun s' p out c ys k g o hp hg hi hm hs => ?_
  have hlen : (ys.map V.str).length ≤ sizeLine := by
    rw [List.length_map, hm.length_eq, sizeLine_eq]
    omega
  have hn : H p = none := I.hok.fresh hp
  have J : Inv X pins σ (upd H p (.lst (ys.map V.str))) { s with heap := s'.heap, gens := s'.gens, drawn := s'.drawn, toks := s'.toks } :=
    I.call (ch := []) (Un.laid k hp hn) (I.hok.laid k hp ⟨hlen, out.toList, c, vals_of_strs hi, hg⟩) (by rw [g]; exact I.bare) (fun _ z => nomatch z)
  have e : s' = { s with heap := s'.heap, gens := s'.gens, drawn := s'.drawn, toks := s'.toks } := by
    obtain ⟨_, _, _, _, _⟩ := s'
    obtain ⟨_, _, _, _, _⟩ := s
    cases o
    rfl
  rw [e]
  exact ⟨.ref p, _, J, rfl, q ys p hm hs hn⟩
end GsY

set_option Elab.async false
set_option linter.all false
set_option maxRecDepth 100000
set_option maxHeartbeats 2000000
/-! an own exception's __init__ that says super().__init__(text) first -/
namespace ErX
open PySem PySem.Spec PyProof.Rows PySem.W PySem.Calls L2
/-- a def whose scope captures __class__ alone -/
structure FnScopeF (N P : List Str) (sc : Scope) : Prop where
  kind : sc.kind = .function
  co : sc.isCoroutine = false
  gen : sc.isGenerator = false
  nd : N.Nodup
  pre : N.take P.length = P
  par : ∀ x ∈ P, sc.names.lookup x = some .local
  nocell : ∀ y ∈ sc.names, y.2 ≠ .cell
  free : ∀ y ∈ sc.names, y.2 = .free → y.1 = "__class__"
  sup : sc.names.lookup ("super" : Str) = some .globalImplicit
  cls : sc.names.lookup ("__class__" : Str) = some .free
def cxF (CX : CXT) (P : Program) (w : World) (K : PySem.W.Frag) (mg : Str → Option Value) (base : Heap) (N : List Str) (qual : Str) (scope : Scope) (f cc : Addr) (cd : Value) (A : Around) (outer : List Env) (s : Shared) (H : Hp) (E : XK) : Cx where
  prog := P
  w := w
  K := K
  mg := mg
  base := base
  A := A.deeper (envX qual scope s.heap.objs.size f cd [("__class__", cc)])
  N := N
  s_0 := s
  H_0 := H
  env := envX qual scope s.heap.objs.size f cd [("__class__", cc)]
  outer := outer
  stack := envX qual scope s.heap.objs.size f cd [("__class__", cc)] :: outer
  ex := []
  calm := true
  fn := fun x => x != "__class__"
  pn := []
  xe := fun e s' => wpAny (model P w) (A.deeper (envX qual scope s.heap.objs.size f cd [("__class__", cc)])) (leaving (envX qual scope s.heap.objs.size f cd [("__class__", cc)]) e) (fun _ s'' => CX outer H s E e s'') (fun e' s'' => CX outer H s E e' s'') s'
theorem one_lookup {x : Str} {c cc : Addr} (h : ([("__class__", cc)] : List (Str × Addr)).lookup x = some c) : x = "__class__" ∧ c = cc := by
  by_cases e : x = "__class__"
  · subst e
    simp at h
    exact ⟨rfl, h.symm⟩
  · have : (x == ("__class__" : Str)) = false := by simpa using e
    simp [List.lookup, this] at h
/-- what stands around the class of the error -/
structure ErC (K : PySem.W.Frag) (P : Program) (C f cc cda : Addr) : Prop where
  oex : OexC K C
  cell : ∃ cl cld csl, K.lookup cc = some ⟨cl, cld, .cell (some (.ref C)), csl⟩
  code : ∃ ccl cdd vs ccs file tf, K.lookup cda = some ⟨ccl, cdd, .fields vs, ccs⟩ ∧ vs[2]? = some (.str file tf) ∧ ((P.main.file : Str) == file) = true
  sup : PySem.W.nsIn K mainGlobals "super" = some none
  third : PySem.W.nsIn K cStatics "thirdparty.any" = some none
  subD : PySem.W.mroIn K C (.ref C) = some true
  subV : PySem.W.subIn K (.ref C) (.type "ValueError") = some true
  ini : PySem.W.ks_superIn K C C "__init__" = some (some (.builtin "ValueError.__init__"))
  top : (P.main.scope.names.lookup ("super" : Str)).isSome = false

theorem look_mem {α β : Type} [BEq α] [LawfulBEq α] {y : α} {u : β} : ∀ {l : List (α × β)}, (l.map (·.1)).Nodup → (y, u) ∈ l → l.lookup y = some u
  | [], _, h => by cases h
  | (a, b) :: l, hn, h => by
    rw [List.map_cons, List.nodup_cons] at hn
    rcases List.mem_cons.mp h with h | h
    · cases h
      simp [List.lookup]
    · have : a ≠ y := fun e => hn.1 (e ▸ List.mem_map.mpr ⟨_, h, rfl⟩)
      have hb : (y == a) = false := by simpa using Ne.symm this
      simp only [List.lookup, hb]
      exact look_mem hn.2 h
theorem lookup_rev {y : Str} {u : Value} {l : List (Str × Value)} (hn : (l.map (·.1)).Nodup) (h : (y, u) ∈ l) : l.reverse.lookup y = some u :=
  look_mem (by rw [List.map_reverse]; exact (List.reverse_perm _).nodup_iff.mpr hn) (List.mem_reverse.mpr h)
theorem zip_fst : ∀ {ps : List Str} {us : List Value}, ((ps.zip us).map (·.1)).Sublist ps
  | [], _ => by simp
  | _ :: _, [] => by simp
  | p :: ps, u :: us => by
    rw [List.zip_cons_cons, List.map_cons]
    exact (zip_fst (ps := ps) (us := us)).cons₂ p
theorem inv_startF {CX : CXT} {P : Program} {w : World} {K : PySem.W.Frag} {mg : Str → Option Value} {base : Heap} {N ps : List Str} {qual : Str} {scope : Scope} {f cc : Addr} {cd : Value} {A : Around} {outer : List Env} {s : Shared} {H : Hp} {E : XK} {us : List Value} {vs : List V} {h₀ : Heap} {tk : Nat} {oc : Obj} {cv : Option Value}
    (S : FnScopeF N ps scope) (hd : A.handled = none) (e0 : Env0 P w K mg base A outer s H) (hl : vs.length = ps.length) (r : Vals vs us) (hcc : K.lookup cc = some oc) (hcv : oc.data = .cell cv)
    (hns : h₀.Ns s.heap.objs.size (fun x => (ps.zip us).reverse.lookup x)) (hk : ∀ b o, s.heap.get? b = some o → h₀.get? b = some o) :
    Inv (cxF CX P w K mg base N qual scope f cc cd A outer s H E) [] (L2.start N vs) H { s with heap := h₀, toks := tk } := by
  have hpl : ps.length ≤ N.length := by have := congrArg List.length S.pre; rw [List.length_take] at this; omega
  have noA : ∀ b : Addr, b ∉ (cxF CX P w K mg base N qual scope f cc cd A outer s H E).ex := fun b z => absurd (show b ∈ ([] : List Addr) from z) (by simp)
  have KX : K.In s.heap := e0.mod.kin.keeps fun b o e => (e0.bs b o e).1
  have hcc0 := e0.mod.kin _ _ hcc
  have hlr := r.length
  refine ⟨⟨e0.mod, S.kind, rfl, rfl, Nat.le_refl _, fun y z c h1 h2 => ?_, fun y hy => ?_, fun y c hf h => ?_, fun _ => hd, Around.frames_deeper e0.frames, .inr ⟨rfl, rfl⟩, fun b z => absurd z (noA b), e0.bs, e0.bsz, fun b _ _ => noA b, fun b z => absurd z (noA b), e0.funs, e0.frf⟩,
    rfl, e0.bare, Un.kept hk, ⟨_, hns, fun i y v h1 h2 h3 => ?_⟩, fun y c h => ?_, e0.hok.fresh (Nat.le_refl _), fun y c h => ?_, fun p hp => absurd (show p ∈ ([] : List (Addr × Obj)) from hp) (by simp), e0.hok.kept hk, ?_⟩
  · exact (one_lookup h1).1.trans (one_lookup h2).1.symm
  · have hy : scope.names.lookup y = some .cell ∨ scope.names.lookup y = some .free := hy
    rcases hy with hy | hy
    · exact absurd rfl (S.nocell _ (PySem.mem_of_lookup hy))
    · have := S.free _ (PySem.mem_of_lookup hy) rfl
      dsimp only at this
      subst this
      exact ⟨cc, by show ([("__class__", cc)] : List (Str × Addr)).lookup ("__class__" : Str) = some cc; simp⟩
  · have := (one_lookup h).1
    subst this
    exact absurd hf (by show ¬ ((("__class__" : Str) != "__class__") = true); simp)
  · have hi : i < vs.length := by
      unfold L2.start at h2
      by_cases hi : i < vs.length
      · exact hi
      · rw [List.getElem?_append_right (by simpa using hi)] at h2
        rw [List.getElem?_replicate] at h2
        split at h2 <;> cases h2
    have ha : vs[i]? = some v := by
      unfold L2.start at h2
      rw [List.getElem?_append_left (by simpa using hi), List.getElem?_map] at h2
      cases e : vs[i]? with
      | none => rw [e] at h2; cases h2
      | some a => rw [e] at h2; cases h2; rfl
    obtain ⟨u, hu, rv⟩ := r.get ha
    have hp : ps[i]? = some y := by
      rw [← S.pre, List.getElem?_take_of_lt (by omega)]; exact h1
    have ndP : ps.Nodup := by rw [← S.pre]; exact S.nd.sublist (List.take_sublist _ _)
    refine ⟨u, rv, .inl ⟨S.par y (List.mem_of_getElem? hp), ?_⟩⟩
    have hz : (ps.zip us)[i]? = some (y, u) := by
      rw [List.getElem?_zip_eq_some]
      exact ⟨hp, hu⟩
    have hnd : ((ps.zip us).map (·.1)).Nodup := ndP.sublist zip_fst
    exact lookup_rev hnd (List.mem_of_getElem? hz)
  · obtain ⟨rfl, rfl⟩ := one_lookup h
    exact ⟨cv, oc, hk _ _ (e0.bs _ _ hcc0).1, hcv⟩
  · obtain ⟨rfl, rfl⟩ := one_lookup h
    exact (e0.bs _ _ hcc0).2
  · unfold L2.start
    show _ = N.length
    rw [List.length_append, List.length_map, List.length_replicate]
    omega
end ErX

set_option Elab.async false
set_option linter.all false
set_option maxRecDepth 100000
set_option maxHeartbeats 2000000
namespace ErX
open PySem PySem.Spec PyProof.Rows PySem.W PySem.Calls L2
theorem kxs_at_call {prog : Program} {w : World} {A : Around} {E : Value → Shared → Prop} {h : Heap} {g : Array GenState} {d : Drawn} {tk : Nat} {os : OsState} {u e C t0 : Addr} {K : Frag} {rest : List Value} {Q : Value → Shared → Prop}
    (T : OexC K C) (X : K.In h) (hu : h.get? u = some (kxs_mw "ValueError.__init__" e)) (he : h.get? e = some ({ cls := .ref C, dict := none, data := .fields #[.ref t0, .none, .none, .none, .bool false, .none] } : Obj)) (hz : rest.length ≤ sizeLine)
    (hq : ∀ h' t1, (∀ b o, b ≠ e → h.get? b = some o → h'.get? b = some o) → h'.get? e = some ({ cls := .ref C, dict := none, data := .fields #[.ref t1, .none, .none, .none, .bool false, .none] } : Obj) → Q .none ⟨h', g, d, tk, os⟩) :
    wpAny (model prog w) A (call (.ref u) rest) Q E ⟨h, g, d, tk, os⟩ := by
  obtain ⟨nm, q, N, bs, bm, sn, sub, ab, col, dd, k0, k1, k2, k3, k5, hC, hbm⟩ := T.cls
  refine wpAny_call (codeAny_of_tree ?_)
  show wpAny _ A.in1 (callAny (.ref u) ⟨rest, []⟩) _ _ _
  simp only [callAny]
  refine wpAny_bind (wpAny_load hu ?_)
  simp only [kxs_mw, show (Value.type "method-wrapper" == Value.type "method" || Value.type "method-wrapper" == Value.type "builtin_function_or_method" || Value.type "method-wrapper" == Value.type "method-wrapper") = true by decide, if_true]
  refine KFB.if_so (by decide) ?_
  refine wpAny_bind (check_bound_init F.excBase_ValueError.toExcCallFacts (X _ _ hC) he rfl ?_)
  refine wpAny_bind (wpAny_pure (wpAny_pure ?_))
  refine ⟨plainId_quiet F.excBase_ValueError.init.plain _, codeAny_builtin F.excBase_ValueError.initEntry ?_⟩
  exact exc_init_tree (cls := .ref C) (t0 := t0) (dv := none) (c2 := .none) (c3 := .none) (b4 := .bool false) he hz fun h' k e' _ => hq h' _ k e'

theorem fn_err {CX : CXT} {P : Program} {w : World} {K : PySem.W.Frag} {mg : Str → Option Value} {base : Heap} {k : Nat} {f cc cda C : Addr} {name qual : Str} {params : Arguments} {body rest : List Stmt} {arg : Expr} {scope : Scope} {dV kV doc pm ct oc : Value} {an od : Option Addr}
    {osl : Array (Option Value)} {N ps : List Str} {sp : Sp} {p0 p1 p2 p3 p4 : Pos} {ar : Arg}
    (lk : K.lookup f = some ⟨oc, od, .func (ksFn name qual params body scope dV kV doc pm an (.ref cda) ct cc), osl⟩)
    (hbd : body = .Expr (.Call (.Attribute (.Call (.Name "super" p0) [] [] p1) "__init__" p2) [arg] [] p3) p4 :: rest)
    (hcd : PySem.W.codeIn K (.ref cda) qual = true) (S : FnScopeF N ps scope) (G : ErC K P C f cc cda)
    (he : ∀ env : Env, ∃ pl : Sem Bool, eval (.Call (.Attribute (.Call (.Name "super" p0) [] [] p1) "__init__" p2) [arg] [] p3) env = (do
      let ov ← attributeBase (.Call (.Name "super" p0) [] [] p1) "__init__" env (eval (.Call (.Name "super" p0) [] [] p1) env)
      standAt p2.atName
      let (f, first) ← holding [ov] (getMethod ov "__init__" pl)
      callWith p3 f first (backTo p3 (starEach [arg] env)) []))
    (hst : ∀ env : Env, starEach [arg] env = [(false, eval arg env)]) (hpl : ∀ env : Env, (backTo p3 (starEach [arg] env)).any (·.1) = false)
    (hself : (params.posonlyargs ++ params.args).head? = some ar) (har : ps[0]? = some ar.arg)
    (len : ∀ vs H Q E, sp vs H Q E → vs.length = ps.length)
    (hbody : ∀ (A : Around) (outer : List Env) (s : Shared) (H : Hp) (vs : List V) (Q : VK) (E : XK), Room k (A.deeper (envX qual scope s.heap.objs.size f (.ref cda) [("__class__", cc)])) → sp vs H Q E →
      ∃ ta t a vs', vs = .ref a :: vs' ∧ H a = some (exo a C none) ∧ PE (cxF CX P w K mg base N qual scope f cc (.ref cda) A outer s H E) arg ta ∧ PSs (cxF CX P w K mg base N qual scope f cc (.ref cda) A outer s H E) rest t ∧
        ta (L2.start N vs) H fun v H1 => H1 a = some (exo a C none) ∧ t { nx := fun _ H' => Q .non H', rt := Q } (L2.start N vs) H1) :
    FnOk P w K mg base CX (k + 1) f (ksFn name qual params body scope dV kV doc pm an (.ref cda) ct cc) ps sp := by
  subst hbd
  refine ⟨len, fun A outer s H args us vs Q E hr e0 hb r hsp => ?_⟩
  have hl := len _ _ _ _ hsp
  have KX : K.In s.heap := e0.mod.kin.keeps fun b o e => (e0.bs b o e).1
  have lim : s.heap.NoLimit := e0.mod.nolimit.keeps fun b o e => (e0.bs b o e).1
  obtain ⟨cl, cld, csl, hcc⟩ := G.cell
  obtain ⟨ccl, cdd, fvs, ccs, file, tf, hcode, hvs, hfile⟩ := G.code
  obtain ⟨nm, qn, Nn, bs, bm, sn, sub, ab, col, dd, k0, k1, k2, k3, k5, hC, hbm⟩ := G.oex.cls
  have hclC : clsIn K C = some { name := nm, bases := bs, mro := .ref C :: bm, ns := Nn, qualname := qn, hasDict := true, slotNames := sn, subclasses := sub, abstract := ab, collection := col, hasDel := false } := by unfold clsIn; rw [hC] <;> rfl
  refine ks_codeAny_call_defAt (fd := ksFn name qual params _ scope dV kV doc pm an (.ref cda) ct cc) hr.depth (KX _ _ lk) rfl lim (codeRec_of KX hcd) rfl hb S.nocell (fun y hy => S.par _ (List.of_mem_zip (show (y.1, y.2) ∈ ps.zip us from hy)).1) (fun h₀ hns hk => ?_) S.co S.gen S.kind
  obtain ⟨ta, t, a, vs', ev, ea, hta, ht, hq⟩ := hbody A outer s H vs Q E (hr.deeper _) hsp
  subst ev
  have I : Inv (cxF CX P w K mg base N qual scope f cc (.ref cda) A outer s H E) [] (L2.start N (.ref a :: vs')) H { s with heap := h₀, toks := s.toks + (ps.zip us).length } := inv_startF S hr.hd e0 hl r hcc rfl hns hk
  generalize hX : cxF CX P w K mg base N qual scope f cc (.ref cda) A outer s H E = X at I hta ht
  have eP : X.prog = P := by rw [← hX]; rfl
  have ew : X.w = w := by rw [← hX]; rfl
  have eA : X.A = A.deeper (envX qual scope s.heap.objs.size f (.ref cda) [("__class__", cc)]) := by rw [← hX]; rfl
  have eV : X.env = envX qual scope s.heap.objs.size f (.ref cda) [("__class__", cc)] := by rw [← hX]; rfl
  have eK : X.K = K := by rw [← hX]; rfl
  have eN : X.N = N := by rw [← hX]; rfl
  refine ks_wpAt_mono (Q := SP X [] { nx := fun _ H' => Q .non H', rt := Q }) (E := X.xe) ?_ (fun fl s' hs => ?_) (fun _ _ x => by rw [← hX] at x; exact x)
  · have X0 : K.In h₀ := by have := I.kIn; rw [eK] at this; exact this
    show _root_.PySem.wpAt (model P w) (A.deeper (envX qual scope s.heap.objs.size f (.ref cda) [("__class__", cc)])) (.func _ (envX qual scope s.heap.objs.size f (.ref cda) [("__class__", cc)])) (execs _ (envX qual scope s.heap.objs.size f (.ref cda) [("__class__", cc)])) _ _ _
    obtain ⟨pl, he⟩ := he (envX qual scope s.heap.objs.size f (.ref cda) [("__class__", cc)])
    have hint : interactive (envX qual scope s.heap.objs.size f (.ref cda) [("__class__", cc)]) = false := by
      unfold interactive
      show (scope.kind == .module && _) = false
      rw [S.kind]
      rfl
    refine ks_wpAt_execs_cons (ks_wpAt_Expr_any (ks_wpAt_MethodCall (pl := pl) ?_ he) hint)
    obtain ⟨t1, ho⟩ := exo_at I.hok ea
    have hxc := X0 _ _ hC
    refine ks_wpAt_super_base (env := envX qual scope s.heap.objs.size f (.ref cda) [("__class__", cc)]) S.sup S.cls (by decide) rfl (X0 _ _ lk) rfl hself rfl (X0 _ _ hcode) rfl hvs hfile G.top ?_
    have hkS : (envX qual scope s.heap.objs.size f (.ref cda) [("__class__", cc)]).scope.kind = .function := S.kind
    obtain ⟨mb, hb1, hb2⟩ := I.mod.blt
    have hbk : ∀ b o, base.get? b = some o → h₀.get? b = some o := by
      have := I.bk
      rw [← hX] at this
      exact this
    have hmg : mg "super" = none := by
      have := I.mod.glob
      rw [← hX] at this
      exact mg_none_of (e0.mod.kin) this G.sup
    have hglob := e0.mod.glob
    obtain ⟨mb, hb1, hb2⟩ := e0.mod.blt
    refine ks_loadName_global hkS S.sup (loadGlobal_builtin (env := envX qual scope s.heap.objs.size f (.ref cda) [("__class__", cc)]) (hglob.keeps hbk) hmg (hb1.keeps hbk) ((hb2 _ (by decide)).trans (by first | boot_by_name | rfl | kernel_rfl)) ⟨rfl, ?_⟩)
    refine wpAny_loadName_free hkS S.cls (by show ([("__class__", cc)] : List (Str × Addr)).lookup ("__class__" : Str) = some cc; simp) ⟨_, X0 _ _ hcc, rfl⟩ ?_
    refine wpAny_loadName_local hkS (S.par _ (List.mem_of_getElem? har)) hns (v := .ref a) ?_ ?_
    · cases r with
      | @cons _ u0 _ ur ra rr =>
        obtain rfl : u0 = Value.ref a := ra
        have hz : (ps.zip (Value.ref a :: ur))[0]? = some (ar.arg, Value.ref a) := by
          rw [List.getElem?_zip_eq_some]
          exact ⟨har, rfl⟩
        have ndP : ps.Nodup := by rw [← S.pre]; exact S.nd.sublist (List.take_sublist _ _)
        exact lookup_rev (ndP.sublist zip_fst) (List.mem_of_getElem? hz)
    refine ks_wpAny_isType_cls hxc rfl ⟨rfl, ?_⟩
    have subD : Looks (model P w) h₀ (isSubtype (.ref C) (.ref C)) true := looks_mroIn X0 G.subD
    refine ks_wpAny_call_super hxc rfl ho rfl (fun c z => by cases z) subD (fun h1 hso k1 => ?_)
    have I1 : Inv X [] (L2.start N (.ref a :: vs')) H ⟨h1, s.gens, s.drawn, s.toks + (ps.zip us).length, s.os⟩ := I.kept (t' := s.toks + (ps.zip us).length) k1
    have X1 : K.In h1 := X0.keeps k1
    have hCm : Looks (model P w) h1 (mroOf (.ref C)) (.ref C :: bm) := fun A Q E s k q => wpAny_bind ((looks_clsIn X1 hclC) A _ E s k (wpAny_pure q))
    have hini : alongIn K "__init__" (((Value.ref C :: bm).dropWhile (· != .ref C)).drop 1) = some (some (.builtin "ValueError.__init__")) := by
      have := G.ini
      unfold ks_superIn at this
      rw [hclC] at this
      exact this
    have IA : InstAt h1 a ({ cls := .ref C, dict := none, data := .fields #[.ref t1, .none, .none, .none, .bool false, .none] } : Obj) C none := ⟨k1 _ _ ho, rfl, rfl, trivial⟩
    refine kxs_getMethod kxs_ValueError hso (looks_opaque X1 G.third) hCm rfl X1 hini (IA.type.andThen (looks_subIn X1 G.subV)) (ks_ne X1 IA hclC) (by decide) ?_
    subst hX
    generalize hu : h1.objs.size = u
    have I2 := I1.kept (t' := s.toks + (ps.zip us).length + 1) (h' := h1.push (kxs_mw "ValueError.__init__" a)) fun b o e => Heap.get?_push_of_some _ e
    have I3 := I2.pins_of (pins' := [(u, kxs_mw "ValueError.__init__" a)]) fun p hp => by
      rw [List.mem_singleton.mp hp]
      refine ⟨Heap.get?_push_at hu.symm rfl, I1.hok.fresh (Nat.le_of_eq hu), ?_, I1.nofs (Nat.le_of_eq hu), fun v z => by cases z⟩
      rw [← hu]
      exact Nat.ne_of_gt I1.lt
    rw [hst] at *
    refine kxs_callWith (i := "ValueError.__init__") (x := a) rfl (evalArgs_plain ?_)
    have hrun := (pa_cons hta pa_nil (hst _)).run p3 [(u, kxs_mw "ValueError.__init__" a)] _ _ H (fun vs H1 => match vs with
      | [_] => H1 a = some (exo a C none) ∧ t { nx := fun _ H' => Q .non H', rt := Q } (L2.start N (.ref a :: vs')) H1
      | _ => False) I3 ?_
    · rw [hst] at hrun
      refine thn hrun fun us1 s1 ⟨vs1, H1, J1, r1, q1⟩ => ?_
      obtain ⟨v1, rfl⟩ : ∃ v, vs1 = [v] := by
        rcases vs1 with _ | ⟨v, _ | ⟨_, _⟩⟩
        · exact q1.elim
        · exact ⟨v, rfl⟩
        · exact q1.elim
      obtain ⟨ea1, hq1⟩ := q1
      have hpin := (J1.pin (u, kxs_mw "ValueError.__init__" a) (List.mem_append_right _ List.mem_cons_self)).1
      obtain ⟨t2, ho2⟩ := exo_at J1.hok ea1
      have XX : K.In s1.heap := J1.kIn
      have hln : us1.length ≤ sizeLine := by
        rw [← r1.length]
        exact (by decide : 1 ≤ sizeLine)
      refine ⟨hpin, ?_⟩
      obtain ⟨hp, g1, d1, tk1, os1⟩ := s1
      refine kxs_at_call G.oex XX hpin ho2 hln fun h' t3 k' e' => ?_
      have J := (J1.write (t' := tk1) (x := a) (e := a) (o := exo a C none) (by rw [ea1]; exact True.intro) (.inl rfl) k' ⟨_, e'⟩ (exo_ok e')).pins_of (pins' := []) fun p hp => by cases hp
      have eu : upd H1 a (exo a C none) = H1 := by
        funext b
        by_cases hb : b = a
        · rw [hb, upd_same, ea1]
        · rw [upd_ne hb]
      rw [eu] at J
      exact wpAt_of_wpAny (ht.run [] _ _ H1 _ J hq1)
    · exact hq
  · have fin : ∀ {σ' : L2.St} {H' : Hp} {v : V} {u : Value}, Inv X [] σ' H' s' → RelV v u → Q v H' → CE outer P w H s Q u s' := by
      subst hX
      exact fun {σ' H' v u} J rv q => ⟨v, H', J.os, J.bare, J.base, J.hok, rv, q⟩
    cases fl with
    | ret u =>
      obtain ⟨v, σ', H', J, rv, q⟩ := hs
      exact fin J rv q
    | next =>
      obtain ⟨σ', H', J, q⟩ := hs
      exact fin (v := V.non) (u := Value.none) J rfl q
    | brk =>
      obtain ⟨_, _, _, q⟩ := hs
      exact False.elim q
    | cont =>
      obtain ⟨_, _, _, q⟩ := hs
      exact False.elim q
end ErX

set_option Elab.async false
set_option linter.all false
set_option maxRecDepth 100000
set_option maxHeartbeats 2000000
/-! try with several clauses, each with or without a name, and an else -/
namespace ErX
open PySem PySem.Spec PyProof.Rows L2
/-- a clause: the slot of its name (if it has one), the class, the suite's reading -/
abbrev Clz := Option Nat × Value × (Addr → Value → Option Addr → TS)
/-- behind a suite its name is gone -/
def lessO : Option Nat → Ends → Ends
  | none, D => D
  | some i, D => ⟨fun τ G => D.nx (τ.set i none) G, D.rt, fun τ G => D.bk (τ.set i none) G, fun τ G => D.ct (τ.set i none) G⟩
def moreO : Option Nat → Addr → L2.St → L2.St
  | none, _, τ => τ
  | some i, a, τ => τ.set i (some (.ref a))
/-- what the clauses wish of an exception, one behind another -/
def wClz (K : PySem.W.Frag) (Wo : WX) (D : Ends) : List Clz → WX
  | [] => Wo
  | z :: r => fun cls d τ G => ∃ b, PySem.W.exmOne K cls z.2.1 = some b ∧ (b = true → ∀ a, G a = none → z.2.2 a cls d (lessO z.1 D) (moreO z.1 a τ) G) ∧ (b = false → wClz K Wo D r cls d τ G)
/-- the clauses as they are written -/
inductive Clauses (X : Cx) : List ExceptHandler → List Clz → Prop
  | nil : Clauses X [] []
  | bare {x : Str} {c : Value} {ts : Addr → Value → Option Addr → TS} {b₀ : Stmt} {more : List Stmt} {p q : Pos} {hs : List ExceptHandler} {l : List Clz} (nm : Names X x c)
      (su : ∀ a oe cls d pn, Zc cls d oe → (∃ vs, oe.data = .fields vs) → PSs (X.suite a ((a, oe) :: pn)) (b₀ :: more) (ts a cls d)) (r : Clauses X hs l) :
      Clauses X (.ExceptHandler (some (.Name x p)) none (b₀ :: more) q :: hs) ((none, c, ts) :: l)
  | named {x n : Str} {i : Nat} {c : Value} {ts : Addr → Value → Option Addr → TS} {b₀ : Stmt} {more : List Stmt} {p q : Pos} {hs : List ExceptHandler} {l : List Clz} (nm : Names X x c) (hi : X.N[i]? = some n) (hn : X.env.kindOf n = some .local)
      (su : ∀ a oe cls d pn, Zc cls d oe → (∃ vs, oe.data = .fields vs) → PSs (X.suite a ((a, oe) :: pn)) (b₀ :: more) (ts a cls d)) (r : Clauses X hs l) :
      Clauses X (.ExceptHandler (some (.Name x p)) (some n) (b₀ :: more) q :: hs) ((some i, c, ts) :: l)
section
variable {X : Cx} {body rest : List Stmt} {h₀ : ExceptHandler} {hs : List ExceptHandler} {l : List Clz} {pos : Pos} {tb : WX → TS} {u : TS} {Wo : WX}
theorem ps_clauses (ho : PSs X rest u) (stk : X.stack = X.env :: X.outer) (fr : X.env.frame = some X.env.locals) (hN : X.N.Nodup) (tk : Takes X Wo)
    (hb : ∀ (W : WX) (pn : List (Addr × Obj)) (xe : Value → Shared → Prop), Takes (X.tr pn xe) W → PassesOwn (model X.prog X.w) X.A X.env xe → PSs (X.tr pn xe) body (tb W))
    (hh : Clauses X (h₀ :: hs) l) : PS X (.Try body (h₀ :: hs) rest [] pos) (fun D τ G => tb (wClz X.K Wo D l) { D with nx := u D } τ G) := by
  constructor
  intro pins s τ G D I wish
  have frames : X.A.frames = some (X.env :: X.outer) := stk ▸ I.ok.frames
  have taken : ∀ v s', XE (X.tr (X.pn ++ pins) fun e t => wpAny (model X.prog X.w) X.A (noteFrame e X.env) (fun _ t2 => wpAny (model X.prog X.w) X.A (setFlight e none) (fun _ t3 => wpAny (model X.prog X.w) X.A (handleBy e X.env (h₀ :: hs)) (SP X pins D) X.xe t3) X.xe t2) X.xe t) (wClz X.K Wo D l) v s' →
      wpAny (model X.prog X.w) X.A (noteFrame v X.env) (fun _ t2 => wpAny (model X.prog X.w) X.A (setFlight v none) (fun _ t3 => wpAny (model X.prog X.w) X.A (handleBy v X.env (h₀ :: hs)) (SP X pins D) X.xe t3) X.xe t2) X.xe s' := by
    rintro _ s' ⟨a, B, sI, _, τ', G', cls, d, rfl, J0, nb, up, sky, na, os, ag, w⟩
    have J : Inv X pins τ' G' sI := J0.ofTry I.ok
    have sky : Sky B (X.env :: X.outer) a (Zc cls d) X.env.locals s'.heap := stk ▸ sky
    refine Sky.land Zc.steady frames fr sky fun h3 fl up3 => ?_
    have J3 : Inv X pins τ' G' { s' with heap := h3 } := J.landed nb fl.1 (up.trans up3) os ag
    obtain ⟨o3, v3, g3, z3, d3⟩ := fl.there
    have apart : a ∉ frs (X.env :: X.outer) := fun hm => by
      obtain ⟨_, o, e, no⟩ := fl.2.2.1.mem hm
      rw [g3] at e
      cases e
      exact no _ d3
    have aL : a ≠ X.env.locals := fun e => apart (List.mem_filterMap.mpr ⟨X.env, List.mem_cons_self, by rw [fr, e]⟩)
    have aF : a ∉ X.fs := fun hm => by
      obtain ⟨e, he, q⟩ := List.mem_filterMap.mp hm
      exact apart (List.mem_filterMap.mpr ⟨e, List.mem_cons_of_mem _ he, q⟩)
    have T3 := J3.suite g3 d3 na aL aF
    have kind : PySem.W.Looks (model X.prog X.w) h3 (typeOf (.ref a)) cls := fun A Q E t k q => wpAny_typeOf_ref (k _ _ g3) (by rw [z3.1]; exact q)
    have look : ∀ {x : Str} {c : Value} {p : Pos} {Q : Value → Shared → Prop} {E : Value → Shared → Prop}, Names X x c → Q c { s' with heap := h3 } → wpAny (model X.prog X.w) (X.A.mark (some (.ref a))) (eval (.Name x p) X.env) Q E { s' with heap := h3 } := by
      rintro x c p Q E ⟨gl, db, m | ⟨m, bt, nn⟩⟩ q
      · exact ld_glob (X := X.suite a ((a, o3) :: (X.pn ++ pins))) T3 gl m q db
      · exact ld_blt (X := X.suite a ((a, o3) :: (X.pn ++ pins))) T3 gl m bt q nn db
    have onwards : Wo cls d τ' G' → wpAny (model X.prog X.w) X.A (handleBy (.ref a) X.env []) (SP X pins D) X.xe { s' with heap := h3 } := fun w => by
      refine wpAny_handleBy_nil ?_
      obtain ⟨_, _, _, oe, vs, T, _, _, he, _, hd, h1, _⟩ := id fl
      unfold PySem.passOn
      refine wpAny_bind (wpAny_field he hd h1 ?_)
      rw [if_neg (show ¬ ((Value.ref T == Value.none) = true) from by simp)]
      have away : wpAny (model X.prog X.w) X.A (setFlight (.ref a) X.env.frame) (fun _ t4 => wpAny (model X.prog X.w) X.A (throw (.ref a) : Sem Flow) (SP X pins D) X.xe t4) X.xe { s' with heap := h3 } := by
        rw [fr]
        exact HandSPX.setFlight_upZ fl fun h4 held up4 => wpAny_throw (tk _ _ ⟨a, B, sI, pins, τ', G', cls, d, rfl, J, nb, (up.trans up3).trans up4, .inr (.inr (stk ▸ held)), na, os, ag, w⟩)
      first
        | exact wpAny_bind (wpAny_pure (wpAny_bind away))
        | exact wpAny_bind away
    have all : ∀ {ks : List ExceptHandler} {ls : List Clz}, Clauses X ks ls → wClz X.K Wo D ls cls d τ' G' → wpAny (model X.prog X.w) X.A (handleBy (.ref a) X.env ks) (SP X pins D) X.xe { s' with heap := h3 } := by
      intro ks ls hk
      induction hk with
      | nil => exact onwards
      | bare nm su r ih =>
        rintro ⟨b, hb1, yes, no⟩
        refine wpAny_handleBy_cons (codeAny_handlers_test (look nm ((PySem.W.exm_one (M := model X.prog X.w) J3.kIn kind hb1).here ?_))) (by intro q; cases q)
        cases b with
        | false => exact ih (no rfl)
        | true =>
          refine codeAny_handlers_suite (HandSPX.lands_againZ fl fun h4 fl4 up4 => ?_)
          have J4 : Inv X pins τ' G' { s' with heap := h4 } := J.landed nb fl4.1 ((up.trans up3).trans up4) os ag
          obtain ⟨o4, v4, g4, z4, d4⟩ := fl4.there
          refine wpAny_mono ((su a o4 cls d (X.pn ++ pins) z4 ⟨_, d4⟩).run [] _ _ G' _ (J4.suite g4 d4 na aL aF) (yes rfl a na)) (fun f t6 e6 => ?_) fun _ _ z => z.elim
          cases f with
          | ret y => obtain ⟨v6, σ6, H6, S6, r6, q6⟩ := e6; exact ⟨_, _, _, S6.unsuite I.ok, r6, q6⟩
          | next => obtain ⟨σ6, H6, S6, q6⟩ := e6; exact ⟨_, _, S6.unsuite I.ok, q6⟩
          | brk => obtain ⟨σ6, H6, S6, q6⟩ := e6; exact ⟨_, _, S6.unsuite I.ok, q6⟩
          | cont => obtain ⟨σ6, H6, S6, q6⟩ := e6; exact ⟨_, _, S6.unsuite I.ok, q6⟩
      | @named x n i c ts b₀ more p q ks2 ls2 nm hi hn su r ih =>
        rintro ⟨b, hb1, yes, no⟩
        refine wpAny_handleBy_cons (codeAny_handlers_test (look nm ((PySem.W.exm_one (M := model X.prog X.w) J3.kIn kind hb1).here ?_))) (by intro q; cases q)
        cases b with
        | false => exact ih (no rfl)
        | true =>
          refine codeAny_handlers_suite_as (HandSPX.lands_againZ fl fun h4 fl4 up4 => ?_)
          have J4 : Inv X pins τ' G' { s' with heap := h4 } := J.landed nb fl4.1 ((up.trans up3).trans up4) os ag
          obtain ⟨o4, v4, g4, z4, d4⟩ := fl4.there
          refine store_ok (X := X.suite a ((a, o4) :: (X.pn ++ pins))) (v := .ref a) (J4.suite g4 d4 na aL aF) hN hi (.inl hn) rfl (fun s5 S5 => ?_) (.inr hn)
          refine wpAny_mono ((su a o4 cls d (X.pn ++ pins) z4 ⟨_, d4⟩).run [] s5 _ G' _ S5 (yes rfl a na)) (fun f t6 e6 => ?_) fun _ _ z => z.elim
          have go : ∀ {σ6 : L2.St} {H6 : Hp} {Q : Shared → Prop}, Inv (X.suite a ((a, o4) :: (X.pn ++ pins))) [] σ6 H6 t6 → (∀ t7, Inv X pins (σ6.set i none) H6 t7 → Q t7) → wpAny (model X.prog X.w) X.A (do bindName X.env n .none; unbindBehindTheSuite X.env n q) (fun _ t7 => Q t7) X.xe t6 :=
            fun {σ6 H6 Q} S6 hq => gone_ok (S6.unsuite I.ok) hN hi hn hq
          cases f with
          | ret y => obtain ⟨v6, σ6, H6, S6, r6, q6⟩ := e6; exact go S6 fun t7 J7 => ⟨_, _, _, J7, r6, q6⟩
          | next => obtain ⟨σ6, H6, S6, q6⟩ := e6; exact go S6 fun t7 J7 => ⟨_, _, J7, q6⟩
          | brk => obtain ⟨σ6, H6, S6, q6⟩ := e6; exact go S6 fun t7 J7 => ⟨_, _, J7, q6⟩
          | cont => obtain ⟨σ6, H6, S6, q6⟩ := e6; exact go S6 fun t7 J7 => ⟨_, _, J7, q6⟩
    exact all hh w
  refine wpAny_Try_except (wpAny_mono ((hb (wClz X.K Wo D l) (X.pn ++ pins) _ taken PassesOwn.looking).run [] s τ G { D with nx := u D } (I.toTry _) wish) (fun f s1 e1 => ?_) fun _ _ z => z)
  cases f with
  | next => obtain ⟨σ1, H1, J1, q1⟩ := e1; exact ho.run pins s1 σ1 H1 D (J1.ofTry I.ok) q1
  | ret y => obtain ⟨v, σ1, H1, J1, r, q1⟩ := e1; exact ⟨v, σ1, H1, J1.ofTry I.ok, r, q1⟩
  | brk => obtain ⟨σ1, H1, J1, q1⟩ := e1; exact ⟨σ1, H1, J1.ofTry I.ok, q1⟩
  | cont => obtain ⟨σ1, H1, J1, q1⟩ := e1; exact ⟨σ1, H1, J1.ofTry I.ok, q1⟩
end
end ErX

set_option Elab.async false
set_option linter.all false
set_option maxRecDepth 100000
set_option maxHeartbeats 2000000
/-! own errors of one field: made, raised, caught, asked -/
namespace ErX
open PySem PySem.Spec PyProof.Rows L2
/-- a text of moderate length -/
structure Sm (x : Str) : Prop where
  len : x.cps.toList.length ≤ 1000
  cps : ∀ c ∈ x.cps.toList, c < 1114112
theorem Sm.ok {x : Str} (h : Sm x) : PyData.strOk x = true := by
  unfold PyData.strOk
  rw [← Array.all_toList, List.all_eq_true]
  exact fun c hc => decide_eq_true (h.cps c hc)
theorem Sm.size {x : Str} (h : Sm x) : x.length ≤ sizeLine := by
  have := h.len
  rw [Array.length_toList] at this
  exact Nat.le_trans (show x.length ≤ 1000 from this) (by decide)
theorem Sm.repr {x : Str} (h : Sm x) : (reprText x).length ≤ 10002 := by
  have h1 := h.len
  rw [Array.length_toList] at h1
  have h1 : x.length ≤ 1000 := h1
  have h2 := PySem.StrLaws.reprText_len x fun c hc => Nat.lt_of_lt_of_le (h.cps c hc) (by decide)
  omega
theorem app_len (a b : Str) : (a ++ b).length = a.length + b.length := by
  show (Str.append a b).cps.size = _
  simp [Str.append, Str.length]
theorem sz_ok {n : Nat} (h : n ≤ 100000) : n ≤ sizeLine := Nat.le_trans h (by decide)
theorem Sm.sz {x : Str} (h : Sm x) : x.length ≤ 1000 := by
  have := h.len
  rw [Array.length_toList] at this
  exact this
theorem int_len {i : Int} (h : -1 ≤ i ∧ i < 10 ^ 60) : ((toString i : String) : Str).length ≤ 60 := by
  by_cases z : 0 ≤ i
  · exact PyProof.Rows.toString_length_le z (by decide) h.2
  · have : i = -1 := by omega
    subst this
    decide +kernel
theorem int_log {i : Int} (h : -1 ≤ i ∧ i < 10 ^ 60) : i.natAbs.log2 < 1920 := by
  have h1 : i.natAbs < 2 ^ 200 := by
    have : (10 : Nat) ^ 60 < 2 ^ 200 := by decide
    omega
  by_cases z : i.natAbs = 0
  · rw [z]; decide
  · have := (Nat.log2_lt z).mpr h1
    omega
/-- what an error's field may be here -/
def OkV (v : V) : Prop := (∃ y, v = .str y ∧ Sm y) ∨ ∃ i : Int, v = .int i ∧ -1 ≤ i ∧ i < 10 ^ 60
/-- __init__ of an error of one field -/
def spEr (C : Addr) (f : Str) : Sp := fun vs H Q _ => ∃ (a : Addr) (v : V), vs = [.ref a, v] ∧ OkV v ∧ H a = some (exo a C none) ∧
  ∀ d H', H d = none → d ≠ a → H' a = some (exo a C (some d)) → H' d = some (exd d [(f, v)]) → (∀ b o, b ≠ a → H b = some o → H' b = some o) → Q .non H'
/-- at the place of a raise -/
theorem er_go {C a : Addr} {f : Str} {v : V} {H : Hp} {Q : XK} {E : XK} (ok : OkV v) (ha : H a = none) (k : ∀ d H', H d = none → H' d = some (.xd [(f, v)]) → Same H H' → Q (.ref C) (some d) H') :
    spEr C f [.ref a, v] (upd H a (exo a C none)) (fun u H2 => u = .non ∧ ∃ (d : Addr) (fs : List (Str × V)), H2 a = some (exo a C (some d)) ∧ H2 d = some (exd d fs) ∧ H d = none ∧ Q (.ref C) (some d) (upd (del H2 a) d (.xd fs))) E := by
  refine ⟨a, v, rfl, ok, upd_same, fun d H' hd da h1 h2 h3 => ⟨rfl, d, _, h1, h2, ?_, ?_⟩⟩
  · rw [upd_ne da] at hd
    exact hd
  · rw [upd_ne da] at hd
    refine k d _ hd upd_same fun b o e => ?_
    have bd : b ≠ d := fun z => by rw [z, hd] at e; cases e
    have ba : b ≠ a := fun z => by rw [z, ha] at e; cases e
    rw [upd_ne bd, del_ne ba]
    exact h3 b o ba ((upd_ne ba).trans e)
/-- all that a raise of the class asks -/
structure ErMk (P : Program) (w : World) (K : PySem.W.Frag) (mg : Str → Option Value) (base : Heap) (k : Nat) (nm : Str) (C : Addr) (f : Str) : Prop where
  oex : OexC K C
  gm : mg nm = some (.ref C)
  ex : ∃ (fI : Addr) (fd : FuncData) (ps : List Str), PySem.W.findIn K (.ref C) "__init__" = some (some (.ref fI)) ∧ PySem.W.typeIn K (.ref fI) = some (.type "function") ∧ FnOk P w K mg base (L2.CX P w) k fI fd ps (spEr C f) ∧ Binds K fd ps []
  xf : XfC K C
  no : PySem.W.findIn K (.ref C) f = some none
section
variable {X : Cx} {k : Nat} {nm f : Str} {C : Addr} {e : Expr} {es : List Expr} {ta : TA} {te : TE} {p pos : Pos}
theorem pmk_er (M : ErMk X.prog X.w X.K X.mg X.base k nm C f) (hr : Room (k + 1) X.A) (ha : PA X (e :: es) ta) (hg : Gl X nm := by rfl) (hdb : (nm == ("__debug__" : Str)) = false := by decide)
    (hs : starEach (e :: es) X.env = (false, eval e X.env) :: starEach es X.env := by rfl) (hpl : (backTo pos (starEach es X.env)).any (·.1) = false := by rfl) :
    PMk X (.Call (.Name nm p) (e :: es) [] pos) (tMkO C (spEr C f) [] ta) := by
  obtain ⟨fI, fd, ps, h1, h2, F, hb⟩ := M.ex
  exact pmk_oex M.oex h1 h2 F hr hb .nil passL hg M.gm ha hdb hs hpl
end
/-! ### isinstance of a caught error that has its dict -/
section
open PySem.W PySem.Calls
variable {prog : Program} {w : World} {A : Around} {E : Value → Shared → Prop} {s : Shared} {K : Frag} {x D : Addr} {ox : Obj} {od : Option Obj}
theorem find_class {C : Addr} {name : Str} {a g : Value} (hc : (clsIn K C).isSome = true) (ha : findIn K (.ref C) name = some (some a)) (hg : specialIn K a "__get__" = some (some g)) (ht : takesIn K a = some true) : findObj K C od name = some (.bind g a) := by
  obtain ⟨cd, hc⟩ := Option.isSome_iff_exists.mp hc
  simp only [findObj, hc, ha, hg, ht, Option.bind_some]
theorem class_of (Y : L2.ExcC K D) (X : K.In s.heap) (I : InstAt s.heap x ox D od) {Q : Option Value → Shared → Prop} (h : Q (some (.ref D)) { s with toks := s.toks + 1 }) : wpAny (model prog w) A (getAttr? (.ref x) "__class__") Q E s := by
  have hf : findObj K D od "__class__" = some (.bind (.builtin "getset_descriptor.__get__") (.builtin "object.__class__")) := find_class (by obtain ⟨cd, hc, _⟩ := any_some Y.hd; rw [hc]; rfl) Y.ha Y.hn Y.ht
  obtain ⟨hp, g, d, t, os⟩ := s
  have ty := I.type (M := model prog w)
  have sub : Looks (model prog w) hp (isInstance (.ref x) (.type "BaseException")) true := ty.andThen (looks_subIn X Y.hs)
  have n2 : (Value.builtin "BaseException.__getattribute__" == Value.builtin "object.__getattribute__") = false := by decide +kernel
  have n1 : (onTheHeap (Value.ref D) && Value.builtin "BaseException.__getattribute__" == Value.builtin "object.__getattribute__") = false := by rw [n2]; rfl
  unfold getAttr? getAttrBy? getAttrBy
  refine wpAny_bind (wpAny_mkText (wpAny_bind (wpAny_attempt (wpAny_holding (wpAny_bind (ty.at (wpAny_bind ((looks_findIn (M := model prog w) X Y.hg).at ?_))))))))
  show wpAny _ _ (if (onTheHeap (Value.ref D) && Value.builtin "BaseException.__getattribute__" == Value.builtin "object.__getattribute__") = true then _ else _) _ _ _
  rw [n1, if_neg Bool.false_ne_true]
  unfold getAttrByItsOwn hookBefore
  refine wpAny_bind ?_
  rw [if_pos (show onTheHeap (Value.ref D) = true from rfl)]
  refine (looks_findIn (M := model prog w) X Y.hk).at (wpAny_bind (wpAny_attempt (wpAny_holding ?_)))
  unfold callGetattribute
  rw [show (false && onTheHeap (Value.builtin "BaseException.__getattribute__")) = false from rfl, if_neg Bool.false_ne_true]
  unfold boundAndCalled
  rw [PySem.F.excAttr_ValueError.ga.bind (.ref x)]
  refine wpAny_bind (wpAny_pure ?_)
  show wpAny _ _ (call (.builtin "BaseException.__getattribute__") [.ref x, .str "__class__" t]) _ _ _
  refine wpAny_call (codeAny_call_builtin PySem.F.excAttr_ValueError.ga.plain PySem.F.entry_bexc_ga (@check_slot (model prog w) _ _ ⟨hp, g, d, t + 1, os⟩ "BaseException.__getattribute__" "BaseException" "__getattribute__" (.ref x) [.str "__class__" t] [] _ (by decide +kernel) (by decide +kernel) sub (PySem.F.args_bexc_ga (.ref x) (.str "__class__" t)) ?_))
  unfold Builtin.«object.__getattribute__»
  refine wpAny_bind (wpAny_of_eq (a := ((Value.ref x : Value), [Value.str "__class__" t])) (by first | rfl | (simp only [slotArgs]; rfl)) ?_)
  refine wpAny_bind (wpAny_pure (wpAny_bind (ty.at (wpAny_bind ((looks_find (M := model prog w) X I hf).at ?_)))))
  show wpAny _ _ (holding [Value.builtin "object.__class__"] (call (.builtin "getset_descriptor.__get__") [.builtin "object.__class__", .ref x, .ref D]) >>= ret) _ _ _
  refine wpAny_bind (wpAny_holding (wpAny_call (class_get (s := ⟨hp, g, d, t + 1, os⟩) (ox := ox) (od := od) X I Y.hm ?_)))
  refine wpAny_pure ?_
  show wpAny _ _ (handedOut (.ref D)) _ _ _
  rw [handedOut_of (v := .ref D) rfl]
  first
    | exact wpAny_pure (wpAny_pure h)
    | exact wpAny_pure h
    | exact wpAny_pure (wpAny_bind (wpAny_pure (wpAny_pure h)))
theorem kit_err (Y : L2.ExcC K D) : KitX K (.ref x) (.ref D) (fun h => InstAt h x ox D od) where
  ty := fun _ _ _ I => I.type
  it := fun _ _ X _ => by
    obtain ⟨cd, hc, _⟩ := any_some Y.hd
    unfold clsIn at hc
    split at hc
    · rename_i ho
      intro A' Q' E' s' k q
      unfold isType loadHead
      exact wpAny_bind (wpAny_loadPart (k _ _ (X _ _ ho)) (wpAny_pure q))
    · cases hc
  ne := fun h tp dd its n sl X htp => by
    obtain ⟨cd, hc, _⟩ := any_some Y.hd
    refine Bool.eq_false_iff.mpr fun q => ?_
    have e : D = tp := Value.ref.inj (beq_iff_eq.mp q)
    subst e
    unfold clsIn at hc
    split at hc
    · rename_i ho
      have z := (X _ _ ho).symm.trans htp
      cases z
    · cases hc
  ca := fun X I k => class_of Y X I k
end
/-- isinstance(e, c): e the error that the suite holds -/
theorem call_isX {X : Cx} {a D : Addr} {oe : Obj} {cls : Value} {d : Option Addr} {pn : List (Addr × Obj)} (C : L2.ExcC X.K D) (hz : Zc cls d oe) (hf : ∃ vs, oe.data = .fields vs) :
    CallR (X.suite a ((a, oe) :: pn)) (.builtin "isinstance") (fun xs H Q => ∃ (c : V) (cv : Value) (b : Bool) (dd : Addr) (fs : List (Str × V)), xs = [.ref a, c] ∧ cls = .ref D ∧ d = some dd ∧ H dd = some (.xd fs) ∧ (∀ u, RelV c u → u = cv) ∧ PySem.W.kitOne X.K (.ref D) cv = some b ∧ Q (.bl b) H) := by
  intro pins s σ H xs us Q I r h
  obtain ⟨c, cv, b, dd, fs, rfl, rfl, rfl, ed, hcv, e, q⟩ := h
  cases r with
  | cons rx rr =>
    cases rr with
    | cons rt rr =>
      cases rr
      cases rx
      have ec := hcv _ rt
      subst ec
      obtain ⟨hget, _⟩ := I.pin (a, oe) (List.mem_append.mpr (.inl List.mem_cons_self))
      obtain ⟨vs, hv⟩ := hf
      have hx : ObjOk X.prog X.w H s.heap dd (.xd fs) := I.hok dd _ ed
      obtain ⟨mA, hns, hr⟩ := hx
      obtain ⟨od, ho, hl⟩ := lookIn_ns hns
      have J : PySem.W.InstAt s.heap a oe D (some od) := ⟨hget, hz.1, by unfold PySem.W.notCls; rw [hv] <;> rfl, by rw [hz.2]; exact ho⟩
      exact PySem.W.kia_one (kit_err C) I.kIn J e (fun z => nomatch z) fun tk => ⟨.bl b, H, I.kept (t' := tk) fun _ _ z => z, rfl, q⟩
end ErX

set_option Elab.async false
set_option linter.all false
set_option maxRecDepth 100000
set_option maxHeartbeats 2000000
/-! calls that may raise, wished for at the caller's slots: a def, a method, a classmethod, a class that is made -/
namespace ErX
open PySem PySem.Spec PyProof.Rows L2
abbrev FnX (P : Program) (w : World) (K : PySem.W.Frag) (mg : Str → Option Value) (base : Heap) (k : Nat) (f : Addr) (sp : Sp) : Prop := FnR P w K mg base (L2.CX P w) k f sp
structure CalX (P : Program) (w : World) (K : PySem.W.Frag) (mg : Str → Option Value) (base : Heap) (x : Str) (k : Nat) (sp : Sp) : Prop where
  ex : ∃ f, mg x = some (.ref f) ∧ FnX P w K mg base k f sp ∧ PySem.W.keepIn K (.ref f) = true
structure MetX (P : Program) (w : World) (K : PySem.W.Frag) (mg : Str → Option Value) (base : Heap) (C : Addr) (m : Str) (k : Nat) (sp : Sp) : Prop where
  cl : Cls K C
  ex : ∃ f, Meth K C m f ∧ FnX P w K mg base k f sp
structure ClmX (P : Program) (w : World) (K : PySem.W.Frag) (mg : Str → Option Value) (base : Heap) (C : Addr) (m : Str) (k : Nat) (sp : Sp) : Prop where
  ex : ∃ mc p g, ClX.CRead K C mc ∧ ClX.CMet K C mc m p g ∧ FnX P w K mg base k g sp
structure MakX (P : Program) (w : World) (K : PySem.W.Frag) (mg : Str → Option Value) (base : Heap) (x : Str) (C : Addr) (k : Nat) (sp : Sp) : Prop where
  gm : mg x = some (.ref C)
  ex : ∃ f, Mk K C f ∧ FnX P w K mg base k f sp
/-- a wish that fits every state's slots -/
abbrev At (X : Cx) (E : L2.St → XK) : Prop := ∀ σ, PassesAt (L2.CX X.prog X.w) X σ (E σ)
/-- in a def that may raise -/
theorem at_def {X : Cx} {E : XK} (tk : Takes X (fun cls d _ H => E cls d H)) : At X (fun _ => E) := fun σ pins H s e s' I c => passes_call tk (fun _ _ _ _ h => h) pins σ H s e s' I c
/-- in a try -/
theorem at_try {X : Cx} {W : WX} (tk : Takes X W) : At X (WE W) := fun σ => passAt tk σ
/-- where nothing is raised -/
theorem at_no {X : Cx} : At X (fun _ => E0) := fun σ pins H s e s' I c => passL pins σ H s e s' I c
section
variable {X : Cx} {pins : List (Addr × Obj)} {σ : L2.St} {H : Hp} {s : Shared} {k : Nat} {f C : Addr} {sp : Sp} {E : L2.St → XK} {Q : VK} {us : List Value} {vs : List V}
theorem run_x (F : FnX X.prog X.w X.K X.mg X.base k f sp) (hr : Room k X.A) (hx : At X E) (I : Inv X pins σ H s) (r : Vals vs us) (h : sp vs H Q (E σ)) : codeAny (model X.prog X.w) X.A (.call (.ref f) ⟨us, []⟩) (wants (EP X pins σ Q) X.xe) s := by
  refine codeAny_mono (F X.A X.stack s H us vs Q (E σ) hr I.env0 r h) fun z s' hz => ?_
  rcases z with e | (_ | _ | _ | _)
  · exact hx σ pins H s e s' I hz
  · exact hz.elim
  · exact hz.elim
  · exact hz.elim
  · exact I.after hz
end
section
variable {X : Cx} {k : Nat} {C : Addr} {sp : Sp} {E : L2.St → XK} {x m : Str} {e o : Expr} {es : List Expr} {ta : TE} {t : TA} {p pos apos : Pos}
def tCalX (sp : Sp) (E : L2.St → XK) (t : TA) : TE := fun σ H Q => t σ H fun vs G => sp vs G Q (E σ)
theorem pe_calX (c : CalX X.prog X.w X.K X.mg X.base x k sp) (hr : Room k X.A) (hx : At X E) (ha : PA X (e :: es) t) (hg : Gl X x := by rfl) (hdb : (x == ("__debug__" : Str)) = false := by decide)
    (hs : starEach (e :: es) X.env = (false, eval e X.env) :: starEach es X.env := by rfl) (hpl : (backTo pos (starEach es X.env)).any (·.1) = false := by rfl) : PE X (.Call (.Name x p) (e :: es) [] pos) (tCalX sp E t) := by
  obtain ⟨f, hm, F, hk⟩ := c.ex
  exact ⟨fun pins s σ H Q I h => wpAny_Call_Name_kw (ld_glob I hg hm (PySem.W.callWith_K (h₀ := X.base) I.ok.mod.kin hk (thn (ha.run pos pins s σ H _ I h) fun us s1 ⟨vs, G, J, r, q⟩ => ⟨J.kIn, wpAny_call (run_x F hr hx J r q)⟩) hs hpl) hdb)⟩
def tMetX (C : Addr) (m : Str) (sp : Sp) (E : L2.St → XK) (ta : TE) (t : TA) : TE := fun σ H Q => ta σ H fun x G => ∃ a dx fs, x = .ref a ∧ G a = some (.ins C dx fs) ∧ fs.lookup m = none ∧ t σ G fun vs G2 => sp (x :: vs) G2 Q (E σ)
theorem pe_metX {pl : Sem Bool} (c : MetX X.prog X.w X.K X.mg X.base C m k sp) (hr : Room k X.A) (hx : At X E) (ho : PE X o ta) (ha : PA X (e :: es) t)
    (hs : starEach (e :: es) X.env = (false, eval e X.env) :: starEach es X.env := by rfl) (hpl : (backTo pos (starEach es X.env)).any (·.1) = false := by rfl)
    (ht : eval (.Call (.Attribute o m apos) (e :: es) [] pos) X.env = (do
      let ov ← eval o X.env
      standAt apos.atName
      let (f, first) ← holding [ov] (getMethod ov m pl)
      callWith pos f first (backTo pos (starEach (e :: es) X.env)) (backToKw pos (keywordEach [] X.env))) := by rfl) : PE X (.Call (.Attribute o m apos) (e :: es) [] pos) (tMetX C m sp E ta t) := by
  obtain ⟨f, hm, F⟩ := c.ex
  refine ⟨fun pins s σ H Q I h => PySem.W.methodCall_KW (pl := pl) (thn (ho.run pins s σ H _ I h) fun u s1 ⟨x, G, J, rx, a, dx, fs, ex, ea, l, q⟩ => ?_) ht⟩
  subst ex
  obtain rfl : u = Value.ref a := rx
  exact getmeth_ok J ea c.cl hm l (PySem.W.callWith_K (first := [.ref a]) (h₀ := X.base) J.ok.mod.kin hm.kp (thn (ha.run pos pins s1 σ G _ J q) fun us s2 ⟨vs, G2, J2, r, q2⟩ => ⟨J2.kIn, wpAny_call (run_x (us := .ref a :: us) (vs := .ref a :: vs) F hr hx J2 (.cons rfl r) q2)⟩) hs hpl)
theorem pe_metX0 {pl : Sem Bool} (c : MetX X.prog X.w X.K X.mg X.base C m k sp) (hr : Room k X.A) (hx : At X E) (ho : PE X o ta)
    (ht : eval (.Call (.Attribute o m apos) [] [] pos) X.env = (do
      let ov ← eval o X.env
      standAt apos.atName
      let (f, first) ← holding [ov] (getMethod ov m pl)
      callWith pos f first (backTo pos (starEach [] X.env)) (backToKw pos (keywordEach [] X.env))) := by rfl) : PE X (.Call (.Attribute o m apos) [] [] pos) (tMetX C m sp E ta tNil) := by
  obtain ⟨f, hm, F⟩ := c.ex
  refine ⟨fun pins s σ H Q I h => PySem.W.methodCall_KW (pl := pl) (thn (ho.run pins s σ H _ I h) fun u s1 ⟨x, G, J, rx, a, dx, fs, ex, ea, l, q⟩ => ?_) ht⟩
  subst ex
  obtain rfl : u = Value.ref a := rx
  exact getmeth_ok J ea c.cl hm l (PySem.W.callWith_K0 J.kIn hm.kp (wpAny_call (run_x (us := [.ref a]) (vs := [.ref a]) F hr hx J (.cons rfl .nil) q)))
def tClmX (C : Addr) (sp : Sp) (E : L2.St → XK) (ta : TE) (t : TA) : TE := fun σ H Q => ta σ H fun x G => x = .ref C ∧ t σ G fun vs G2 => sp (.ref C :: vs) G2 Q (E σ)
theorem pe_clmX {pl : Sem Bool} (c : ClmX X.prog X.w X.K X.mg X.base C m k sp) (hr : Room k X.A) (hx : At X E) (ho : PE X o ta) (ha : PA X (e :: es) t)
    (hs : starEach (e :: es) X.env = (false, eval e X.env) :: starEach es X.env := by rfl) (hpl : (backTo pos (starEach es X.env)).any (·.1) = false := by rfl)
    (ht : eval (.Call (.Attribute o m apos) (e :: es) [] pos) X.env = (do
      let ov ← eval o X.env
      standAt apos.atName
      let (f, first) ← holding [ov] (getMethod ov m pl)
      callWith pos f first (backTo pos (starEach (e :: es) X.env)) (backToKw pos (keywordEach [] X.env))) := by rfl) : PE X (.Call (.Attribute o m apos) (e :: es) [] pos) (tClmX C sp E ta t) := by
  obtain ⟨mc, q0, g, r, cm, F⟩ := c.ex
  refine ⟨fun pins s σ H Q I h => PySem.W.methodCall_KW (pl := pl) (thn (ho.run pins s σ H _ I h) fun u s1 ⟨x, G, J, rx, ex, q⟩ => ?_) ht⟩
  subst ex
  obtain rfl : u = Value.ref C := rx
  refine ClX.getmethcm_ok J r cm fun s2 J2 => ClX.callwith_cm J2 (ClX.base_none J (Nat.le_refl _)) cm.fi (thn (ha.run pos _ s2 σ G _ J2 q) fun us s3 ⟨vs, G2, J3, rv, q2⟩ => ⟨⟨ClX.pin_at J3, J3.kIn⟩, ?_⟩) hs hpl
  exact thn (wpAny_call (PySem.W.method_call (ClX.pin_at J3) (run_x (us := .ref C :: us) (vs := .ref C :: vs) F hr hx J3 (.cons rfl rv) q2))) fun _ _ y => ClX.unpinE y
def tMakX (C : Addr) (sp : Sp) (E : L2.St → XK) (t : TA) : TE := fun σ H Q => t σ H fun vs G => ∀ x dx, G x = none → G dx = none → dx ≠ x → sp (.ref x :: vs) (upd (upd G dx (.own x)) x (.ins C dx [])) (fun v G2 => v = .non ∧ Q (.ref x) G2) (E σ)
theorem pe_makX (c : MakX X.prog X.w X.K X.mg X.base x C k sp) (hr : Room (k + 1) X.A) (hx : At X E) (ha : PA X (e :: es) t) (hg : Gl X x := by rfl) (hdb : (x == ("__debug__" : Str)) = false := by decide)
    (hs : starEach (e :: es) X.env = (false, eval e X.env) :: starEach es X.env := by rfl) (hpl : (backTo pos (starEach es X.env)).any (·.1) = false := by rfl) : PE X (.Call (.Name x p) (e :: es) [] pos) (tMakX C sp E t) := by
  obtain ⟨f, M, F⟩ := c.ex
  refine ⟨fun pins s σ H Q I h => wpAny_Call_Name_kw (ld_glob I hg c.gm (PySem.W.callWith_K (h₀ := X.base) I.ok.mod.kin M.kp (thn (ha.run pos pins s σ H _ I h) fun us s1 ⟨vs, G, J, r, q⟩ => ⟨J.kIn, ?_⟩) hs hpl) hdb)⟩
  have q := q (s1.heap.objs.size + 1) s1.heap.objs.size (J.hok.fresh (Nat.le_succ _)) (J.hok.fresh (Nat.le_refl _)) (Nat.ne_of_lt (Nat.lt_succ_self _))
  have J2 := Inv.made (C := C) J
  show wpAny _ _ (call (.ref C) us) _ _ _
  refine wpAny_call (make_map (f := f) J.kIn M.makes M.init (beq_iff_eq.mp M.fn) (codeAny_mono (F _ X.stack _ _ (Value.ref (s1.heap.objs.size + 1) :: us) (V.ref (s1.heap.objs.size + 1) :: vs) _ (E σ) (hr.make C us []) (J2.env0.make C us []) (.cons rfl r) q) fun z s' hz => ?_))
  rcases z with y | (_ | _ | _ | _)
  · exact hx σ pins _ _ y s' J2 hz
  · exact hz.elim
  · exact hz.elim
  · exact hz.elim
  · obtain ⟨v, G2, J3, rv, ev, q3⟩ := J2.after hz
    subst ev
    exact ⟨rv, .ref (s1.heap.objs.size + 1), G2, J3, rfl, q3⟩
end
end ErX

set_option Elab.async false
set_option linter.all false
set_option maxRecDepth 100000
set_option maxHeartbeats 1000000
namespace KwX
open PySem PySem.Spec PyProof.Rows L2
/-- C(e, ..) and C() where C's making takes keywords -/
def tMk1 (C : Addr) (sp : Sp) (E : XK) (dv : V) (t : TA) : TE := fun σ H Q => t σ H fun vs H1 => vs.length ≤ 1 ∧ MkQ C sp E dv vs [] H1 Q
/-- C(e, a = x, b = y) -/
def tMkK (C : Addr) (sp : Sp) (E : XK) (dv : V) (names : List Str) (t tk : TA) : TE := fun σ H Q => t σ H fun vs H1 => tk σ H1 fun zs H2 => vs.length ≤ 1 ∧ MkQ C sp E dv vs (names.zip zs) H2 Q
theorem kwR_zip {zs : List V} {ws : List Value} (r : Vals zs ws) : ∀ names : List Str, KwR (names.zip zs) (names.zip ws) := by
  induction r with
  | nil =>
    intro names
    cases names <;> exact .nil
  | cons h t ih =>
    intro names
    cases names with
    | nil => exact .nil
    | cons n ns => exact .cons ⟨rfl, h⟩ (ih ns)
theorem zip_keys_sub {zs : List V} : ∀ (names : List Str), ((names.zip zs).map (·.1)).Sublist names := by
  induction zs with
  | nil => intro names; rw [List.zip_nil_right]; exact List.nil_sublist _
  | cons z zs ih =>
    intro names
    cases names with
    | nil => exact List.nil_sublist _
    | cons n ns => exact (ih ns).cons_cons n
section
variable {X : Cx} {k : Nat} {f C : Addr} {dv : V} {sp : Sp} {E : XK} {x : Str} {p pos : Pos} {e : Expr} {es : List Expr} {kws : List Keyword} {t tk : TA} {names : List Str}
theorem pe_mk1 (M : Mk X.K C f) (F : KwOk X.prog X.w X.K X.mg X.base k f dv sp) (hr : Room (k + 1) X.A) (hg : Gl X x) (hm : X.mg x = some (.ref C)) (ha : PA X (e :: es) t) (hdb : (x == ("__debug__" : Str)) = false := by decide)
    (he : starEach (e :: es) X.env = (false, eval e X.env) :: starEach es X.env := by rfl) (hpl : (backTo pos (starEach es X.env)).any (·.1) = false := by rfl) : PE X (.Call (.Name x p) (e :: es) [] pos) (tMk1 C sp E dv t) := by
  refine ⟨fun pins s σ H Q I h => ?_⟩
  refine wpAny_Call_Name_kw (ld_glob I hg hm ?_ hdb)
  refine PySem.W.callWith_K (h₀ := X.base) I.ok.mod.kin M.kp (thn (ha.run pos pins s σ H _ I h) fun us s1 ⟨vs, H1, I1, r, hl, q⟩ => ⟨I1.kIn, ?_⟩) he hpl
  exact run_mk M F hr I1 r hl .nil (fun _ h => (by cases h)) List.nodup_nil (Nat.zero_le _) q
theorem pe_mk0 (M : Mk X.K C f) (F : KwOk X.prog X.w X.K X.mg X.base k f dv sp) (hr : Room (k + 1) X.A) (hg : Gl X x) (hm : X.mg x = some (.ref C)) (hdb : (x == ("__debug__" : Str)) = false := by decide) : PE X (.Call (.Name x p) [] [] pos) (tMk1 C sp E dv tNil) := by
  refine ⟨fun pins s σ H Q I h => ?_⟩
  refine wpAny_Call_Name_kw (ld_glob I hg hm ?_ hdb)
  obtain ⟨hl, q⟩ := h
  exact PySem.W.callWith_K0 I.kIn M.kp (run_mk (us := []) (vs := []) M F hr I .nil hl .nil (fun _ h => (by cases h)) List.nodup_nil (Nat.zero_le _) q)
theorem pe_mkK (M : Mk X.K C f) (F : KwOk X.prog X.w X.K X.mg X.base k f dv sp) (hr : Room (k + 1) X.A) (hg : Gl X x) (hm : X.mg x = some (.ref C)) (ha : PA X (e :: es) t) (hkw : PK X kws tk) (hnd : names.Nodup) (hne : ∀ n ∈ names, n ≠ "self" ∧ n ≠ "constant") (hlen : names.length ≤ sizeLine)
    (hall : (backToKw pos (keywordEach kws X.env)).all (·.1.isSome) = true := by rfl) (hks : (backToKw pos (keywordEach kws X.env)).filterMap (·.1) = names := by rfl)
    (hdb : (x == ("__debug__" : Str)) = false := by decide) (he : starEach (e :: es) X.env = (false, eval e X.env) :: starEach es X.env := by rfl)
    (hpl : ((backTo pos (starEach (e :: es) X.env)).any (·.1) || (backToKw pos (keywordEach kws X.env)).any (·.1.isNone)) = false := by rfl) : PE X (.Call (.Name x p) (e :: es) kws pos) (tMkK C sp E dv names t tk) := by
  refine ⟨fun pins s σ H Q I h => ?_⟩
  refine wpAny_Call_Name_kw (ld_glob I hg hm ?_ hdb)
  refine PySem.W.callWith_KW (h₀ := X.base) I.ok.mod.kin M.kp hall (thn (ha.run pos pins s σ H _ I h) fun us s1 ⟨vs, H1, I1, r, q⟩ => ?_) hpl he
  refine thn (hkw.run pos pins s1 σ H1 _ I1 q) fun ws s2 ⟨zs, H2, I2, rz, hl, q2⟩ => ⟨I2.kIn, ?_⟩
  rw [hks]
  have sub := zip_keys_sub (zs := zs) names
  refine run_mk M F hr I2 r hl (kwR_zip rz names) (fun q hq => hne _ (sub.subset (List.mem_map.mpr ⟨q, hq, rfl⟩))) (hnd.sublist sub) ?_ q2
  rw [List.length_zip]
  omega
end
end KwX

set_option Elab.async false
set_option linter.all false
set_option maxRecDepth 100000
set_option maxHeartbeats 1000000
/-! a class whose making takes keywords (**) and may raise -/
namespace KwX
open PySem PySem.Spec PyProof.Rows L2 ErX
def KwOkX (P : Program) (w : World) (K : PySem.W.Frag) (mg : Str → Option Value) (base : Heap) (k : Nat) (f : Addr) (dv : V) (sp : Sp) : Prop :=
  ∀ (A : Around) (outer : List Env) (s : Shared) (H : Hp) (v0 : V) (u0 : Value) (vs : List V) (us : List Value) (ks : List (Str × V)) (kw : List (Str × Value)) (Q : VK) (E : XK), Room k A → Env0 P w K mg base A outer s H →
    RelV v0 u0 → Vals vs us → vs.length ≤ 1 → KwR ks kw → (∀ p ∈ ks, p.1 ≠ "self" ∧ p.1 ≠ "constant") → (ks.map (·.1)).Nodup → ks.length ≤ sizeLine →
    (∀ d, H d = none → sp [v0, kwFirst dv vs, .ref d] (upd H d (.dK (keyed ks))) Q E) →
    codeAny (model P w) A (.call (.ref f) ⟨u0 :: us, kw⟩) (CR (L2.CX P w) outer P w H s Q E) s
section
variable {P : Program} {w : World} {K : PySem.W.Frag} {mg : Str → Option Value} {base : Heap} {k : Nat} {f : Addr} {name qual : Str} {params : Arguments} {body : List Stmt} {scope : Scope} {N : List Str} {sp : Sp} {dv : V} {fd : FuncData}
theorem run_kwdefX (F : FunD K name qual params body scope [dv] [] f fd) (hp : KwPar params) (S : FnScope N ["self", "constant", "coefficients"] scope)
    (hbody : ∀ (cdv : Value) (A : Around) (outer : List Env) (s : Shared) (H : Hp) (vs : List V) (Q : VK) (E : XK), Room k (A.deeper (envOfC qual scope s.heap.objs.size f cdv)) → sp vs H Q E →
      ∃ t, PSs (cxOf (L2.CX P w) P w K mg base N qual scope f cdv A outer s H E) body t ∧ t { nx := fun _ H' => Q .non H', rt := Q } (start N vs) H)
: KwOkX P w K mg base (k + 1) f dv sp := by
  intro A outer s H v0 u0 vs us ks kw Q E hr e0 r0 r hl rk hk hnd hz h
  obtain ⟨oc, od, dV, kV, doc, pm, an, cdv, ct, osl, rfl, lk, hcd, hD, _⟩ := F.ex
  obtain ⟨a1, a2, ea, en1, en2⟩ := hp.e2
  obtain ⟨a3, ea3, en3⟩ := hp.e5
  rcases hD with ⟨e, _⟩ | ⟨_, T, o, its, n, rfl, lT, oT, rT⟩
  · cases e
  cases rT with
  | @cons _ du _ _ rd rn =>
  cases rn
  have KX : K.In s.heap := e0.mod.kin.keeps fun b o e => (e0.bs b o e).1
  have hn : H s.heap.objs.size = Option.none := e0.hok.fresh (Nat.le_refl _)
  have hdef : PySem.W.Looks (model P w) s.heap (seqItems? (.ref T)) (some #[du]) := fun A Q E s kp q => wpAny_seqItems (kp _ _ (KX _ _ lT)) oT q
  obtain ⟨b, hf, rb⟩ : ∃ b, (u0 :: us = [u0, b] ∨ (u0 :: us = [u0] ∧ b = du)) ∧ RelV (kwFirst dv vs) b := by
    cases r with
    | nil => exact ⟨du, .inr ⟨rfl, rfl⟩, rd⟩
    | cons rx rr =>
      cases rr with
      | nil => exact ⟨_, .inl rfl, rx⟩
      | cons _ _ => exact absurd hl (by simp)
  have kk := kwR_keys rk
  refine StX.run_bnd (P := P) (w := w) (k := k) (ps := ["self", "constant", "coefficients"]) lk hcd S hr e0 (G := fun xs H2 => ∃ d, H d = Option.none ∧ xs = [v0, kwFirst dv vs, V.ref d] ∧ H2 = upd H d (.dK (keyed ks))) (fun A' Ex Q' hq => ?_) fun s2 H2 xs ⟨d, hd, ex, eH⟩ hr' => ?_
  · refine bind_form hp.e1 ea en1 en2 hp.e3 hp.e4 ea3 en3 hdef hf (fun p hp => ?_) (by rw [kk]; exact hnd) ?_ fun h' t' kp hD => ?_
    · have : p.1 ∈ ks.map (·.1) := by rw [← kk]; exact List.mem_map.mpr ⟨p, hp, rfl⟩
      obtain ⟨q, hq, e⟩ := List.mem_map.mp this
      rw [← e]
      exact hk q hq
    · have := congrArg List.length kk
      rw [List.length_map, List.length_map] at this
      omega
    · have new : ObjOk P w (upd H s.heap.objs.size (.dK (keyed ks))) h' s.heap.objs.size (.dK (keyed ks)) :=
        ⟨by unfold keyed; rw [List.length_map]; exact hz, beq_eq_false_iff_ne.mpr (Ne.symm (Nat.ne_of_lt (StX.env0_big e0))), _, kwR_kv rk, hD⟩
      have un := Un.laid (fs := frs outer) (H := H) (ex := []) (o := .dK (keyed ks)) kp (Nat.le_refl _) hn
      exact hq _ _ [v0, kwFirst dv vs, V.ref s.heap.objs.size] [u0, b, Value.ref s.heap.objs.size] (env0_kept e0 kp new) un rfl (fun e s' z => StX.cxUp outer s H { s with heap := h', toks := t' } (upd H s.heap.objs.size (.dK (keyed ks))) E e s' un kp rfl z) (.cons r0 (.cons rb (.cons rfl .nil))) rfl ⟨_, hn, rfl, rfl⟩
  · subst ex eH
    obtain ⟨t, ht, q⟩ := hbody cdv A outer s2 _ _ Q E hr' (h d hd)
    exact ⟨t, ht, q⟩
end
section
variable {X : Cx} {k : Nat} {f C : Addr} {dv : V} {sp : Sp} {E : L2.St → XK} {pins : List (Addr × Obj)} {σ : L2.St} {H : Hp} {s : Shared}
theorem run_mkX {Q : VK} {us : List Value} {vs : List V} {ks : List (Str × V)} {kw : List (Str × Value)} (M : Mk X.K C f) (F : KwOkX X.prog X.w X.K X.mg X.base k f dv sp) (hr : Room (k + 1) X.A) (hx : At X E) (I : Inv X pins σ H s)
    (r : Vals vs us) (hl : vs.length ≤ 1) (rk : KwR ks kw) (hk : ∀ p ∈ ks, p.1 ≠ "self" ∧ p.1 ≠ "constant") (hnd : (ks.map (·.1)).Nodup) (hz : ks.length ≤ sizeLine) (h : MkQ C sp (E σ) dv vs ks H Q) :
    wpAny (model X.prog X.w) X.A (call (.ref C) us kw) (EP X pins σ Q) X.xe s := by
  have nx := I.hok.fresh (Nat.le_succ s.heap.objs.size)
  have ndx := I.hok.fresh (Nat.le_refl s.heap.objs.size)
  have ne := Nat.ne_of_lt (Nat.lt_succ_self s.heap.objs.size)
  have I2 := Inv.made (C := C) I
  refine wpAny_call (make_map (f := f) I.kIn M.makes M.init (beq_iff_eq.mp M.fn) (codeAny_mono (F _ X.stack _ _ (.ref (s.heap.objs.size + 1)) _ vs us ks kw (fun v H2 => v = .non ∧ Q (.ref (s.heap.objs.size + 1)) H2) (E σ) (hr.make C us kw) (I2.env0.make C us kw) rfl r hl rk hk hnd hz fun d hd => ?_) fun r s' hq' => ?_))
  · have n1 : d ≠ s.heap.objs.size + 1 := fun z => by rw [z, upd_same] at hd; cases hd
    have n2 : d ≠ s.heap.objs.size := fun z => by rw [z, upd_ne ne, upd_same] at hd; cases hd
    rw [upd_ne n1, upd_ne n2] at hd
    exact h (s.heap.objs.size + 1) s.heap.objs.size d nx ndx hd ne n1 n2
  · rcases r with y | (_ | _ | _ | _)
    · exact hx σ pins _ _ y s' I2 hq'
    · exact hq'.elim
    · exact hq'.elim
    · exact hq'.elim
    · obtain ⟨v, H', I3, rv, ev, q3⟩ := I2.after hq'
      subst ev
      exact ⟨rv, ⟨V.ref (s.heap.objs.size + 1), H', I3, rfl, q3⟩⟩
end
def tMkTX (C : Addr) (sp : Sp) (E : L2.St → XK) (dv : V) (ta tt : TE) : TE := fun σ H Q => ta σ H fun x H1 => ∀ d0, H1 d0 = none → tt σ (upd H1 d0 (.dK [])) fun y H2 => ∃ o ks, y = .ref o ∧ o ≠ d0 ∧ H2 o = some (.dK (keyed ks)) ∧ H2 d0 = some (.dK []) ∧
  (∀ p ∈ ks, p.1 ≠ "self" ∧ p.1 ≠ "constant") ∧ (ks.map (·.1)).Nodup ∧ MkQ C sp (E σ) dv [x] ks (upd H2 d0 (.dK (keyed ks))) Q
def tMkKX (C : Addr) (sp : Sp) (E : L2.St → XK) (dv : V) (names : List Str) (t tk : TA) : TE := fun σ H Q => t σ H fun vs H1 => tk σ H1 fun zs H2 => vs.length ≤ 1 ∧ MkQ C sp (E σ) dv vs (names.zip zs) H2 Q
section
variable {X : Cx} {k : Nat} {f C : Addr} {dv : V} {sp : Sp} {E : L2.St → XK} {x : Str} {p pos kpos : Pos} {e e2 : Expr} {ta tt : TE} {es : List Expr} {kws : List Keyword} {t tk : TA} {names : List Str}
theorem pe_mkTX (M : Mk X.K C f) (F : KwOkX X.prog X.w X.K X.mg X.base k f dv sp) (hr : Room (k + 1) X.A) (hx : At X E) (hg : Gl X x) (hm : X.mg x = some (.ref C)) (he : PE X e ta) (ht : PE X e2 tt) (hdb : (x == ("__debug__" : Str)) = false := by decide)
    (hst : starEach [e] X.env = [(false, eval e X.env)] := by rfl) : PE X (.Call (.Name x p) [e] [⟨none, e2, kpos⟩] pos) (tMkTX C sp E dv ta tt) := by
  refine ⟨fun pins s σ H Q I h => ?_⟩
  refine wpAny_Call_Name_kw (ld_glob I hg hm ?_ hdb)
  rw [hst]
  show wpAny _ _ (callWith pos (.ref C) [] [(false, eval e X.env)] [(none, do let v ← eval e2 X.env; standAt pos; pure v)]) _ _ _
  refine callWith_one (K := X.K) M.kp (evalArgs_one ?_)
  refine Calls.spliced_cons (thn (he.run pins s σ H _ I h) fun u s1 ⟨y, H1, I1, r1, q1⟩ => Calls.spliced_nil ?_)
  have hn := I1.hok.fresh (Nat.le_refl s1.heap.objs.size)
  have hbig : sysModules < s1.heap.objs.size := StX.env0_big I1.env0
  have I2 : Inv X pins σ (upd H1 s1.heap.objs.size (.dK [])) { s1 with heap := s1.heap.push dict0 } := I1.laid (t' := s1.toks) (fun b u e => Heap.get?_push_of_some _ e) (Nat.le_refl _) (dk_empty _ hbig)
  refine wpAny_bind (thn (ht.run pins _ σ _ _ I2 (q1 s1.heap.objs.size hn)) fun v s2 ⟨z, H2, I3, r2, o, ks, ez, ne, ho, h0, hk, hnd, q2⟩ => wpAny_bind (wpAny_standAt (wpAny_pure ?_)))
  subst ez
  obtain rfl : v = Value.ref o := r2
  obtain ⟨zl, hsm, vs, rv, hD⟩ := I3.hok o _ ho
  obtain ⟨_, hsm0, vs0, rv0, hD0⟩ := I3.hok _ _ h0
  cases rv0
  have hlen : vs.length ≤ sizeLine := by have := Paired.length rv; omega
  refine ⟨o, vs, rfl, Ne.symm ne, hsm, hD0, hD, hlen, fun p hp => ?_, fun h' a b c => ?_⟩
  · obtain ⟨q, hq, e⟩ := kv_keys rv p hp
    obtain ⟨y', hy', ey⟩ := List.mem_map.mp hq
    exact ⟨y'.1, by rw [← e, ← ey]⟩
  · have I4 : Inv X pins σ (upd H2 s1.heap.objs.size (.dK (keyed ks))) { s2 with heap := h' } := by
      refine I3.write (t' := s2.toks) (x := s1.heap.objs.size) (e := s1.heap.objs.size) (o := .dK (keyed ks)) (by rw [h0]; exact True.intro) (.inl rfl) (fun b u hb e => (c.2 b hb).trans e) ?_ ⟨zl, hsm0, vs, rv, a⟩
      obtain ⟨o', _, _, e', _⟩ := a
      exact ⟨o', e'⟩
    have rk : KwR ks (kwOf vs) := by
      have := kwOf_rel rv
      rw [pairsOf_keyed] at this
      exact this
    refine ⟨I4.kIn, ?_⟩
    exact run_mkX (us := [u]) (vs := [y]) M F hr hx I4 (.cons r1 .nil) (Nat.le_refl 1) rk hk hnd (by unfold keyed at zl; rw [List.length_map] at zl; exact zl) q2
theorem pe_mkKX (M : Mk X.K C f) (F : KwOkX X.prog X.w X.K X.mg X.base k f dv sp) (hr : Room (k + 1) X.A) (hx : At X E) (hg : Gl X x) (hm : X.mg x = some (.ref C)) (ha : PA X (e :: es) t) (hkw : PK X kws tk) (hnd : names.Nodup) (hne : ∀ n ∈ names, n ≠ "self" ∧ n ≠ "constant") (hlen : names.length ≤ sizeLine)
    (hall : (backToKw pos (keywordEach kws X.env)).all (·.1.isSome) = true := by rfl) (hks : (backToKw pos (keywordEach kws X.env)).filterMap (·.1) = names := by rfl)
    (hdb : (x == ("__debug__" : Str)) = false := by decide) (he : starEach (e :: es) X.env = (false, eval e X.env) :: starEach es X.env := by rfl)
    (hpl : ((backTo pos (starEach (e :: es) X.env)).any (·.1) || (backToKw pos (keywordEach kws X.env)).any (·.1.isNone)) = false := by rfl) : PE X (.Call (.Name x p) (e :: es) kws pos) (tMkKX C sp E dv names t tk) := by
  refine ⟨fun pins s σ H Q I h => ?_⟩
  refine wpAny_Call_Name_kw (ld_glob I hg hm ?_ hdb)
  refine PySem.W.callWith_KW (h₀ := X.base) I.ok.mod.kin M.kp hall (thn (ha.run pos pins s σ H _ I h) fun us s1 ⟨vs, H1, I1, r, q⟩ => ?_) hpl he
  refine thn (hkw.run pos pins s1 σ H1 _ I1 q) fun ws s2 ⟨zs, H2, I2, rz, hl, q2⟩ => ⟨I2.kIn, ?_⟩
  rw [hks]
  have sub := zip_keys_sub (zs := zs) names
  refine run_mkX M F hr hx I2 r hl (kwR_zip rz names) (fun q hq => hne _ (sub.subset (List.mem_map.mpr ⟨q, hq, rfl⟩))) (hnd.sublist sub) ?_ q2
  rw [List.length_zip]
  omega
end
end KwX

set_option Elab.async false
set_option linter.all false
namespace Ow
open PySem PySem.Spec PyProof.Rows L2
/-! ### where an object stands, step by step back -/
theorem at_same {H H' : Hp} (s : Same H H') {a : Addr} {o : HO} (h : H a = some o) : H' a = some o := s _ _ h
theorem at_stay {b : Addr} {H H' : Hp} (s : Stay b H H') {a : Addr} {o : HO} (n : a ≠ b) (h : H a = some o) : H' a = some o := s _ _ n h
theorem at_new {H H' : Hp} {p : Addr} {o : HO} (N : upd H p o = H') : H' p = some o := by rw [← N]; exact upd_same
theorem at_old {H H' : Hp} {p : Addr} {o : HO} (N : upd H p o = H') {a : Addr} {u : HO} (n : a ≠ p) (h : H a = some u) : H' a = some u := by rw [← N]; exact (upd_ne n).trans h
theorem at_upd {H : Hp} {p a : Addr} {o u : HO} (n : a ≠ p) (h : H a = some u) : upd H p o a = some u := (upd_ne n).trans h
theorem ne_fr {H : Hp} {a b : Addr} {o : HO} (hb : H b = none) (ha : H a = some o) : a ≠ b := fun z => by rw [z, hb] at ha; cases ha
theorem ne_kd {H : Hp} {a b : Addr} {o u : HO} (ha : H a = some o) (hb : H b = some u) (d : o ≠ u) : a ≠ b := fun z => by
  rw [z, hb] at ha
  exact d (Option.some.inj ha).symm
theorem sm_new {H H1 H' : Hp} {p : Addr} {o : HO} (N : upd H1 p o = H') (s : Same H H1) (h : H p = none) : Same H H' := by rw [← N]; exact same_over s h
theorem ne_fx {H : Hp} {a b : Addr} (hb : H b = none) (ha : ∃ o, H a = some o) : a ≠ b := by
  obtain ⟨o, ha⟩ := ha
  exact ne_fr hb ha
theorem ne_kx {H : Hp} {a b : Addr} {o : HO} (ha : H a = some o) (hb : ∃ u, H b = some u ∧ o ≠ u) : a ≠ b := by
  obtain ⟨u, hb, d⟩ := hb
  exact ne_kd ha hb d
theorem ex_same {H H' : Hp} (s : Same H H') {a : Addr} (h : ∃ o, H a = some o) : ∃ o, H' a = some o := by
  obtain ⟨o, h⟩ := h
  exact ⟨o, s _ _ h⟩
theorem ex_upd {H : Hp} {p a : Addr} {o : HO} (h : ∃ o, H a = some o) : ∃ u, upd H p o a = some u := by
  obtain ⟨u, h⟩ := h
  by_cases e : a = p
  · rw [e]; exact ⟨_, upd_same⟩
  · exact ⟨_, (upd_ne e).trans h⟩
theorem ex_old {H H' : Hp} {p : Addr} {o : HO} (N : upd H p o = H') {a : Addr} (h : ∃ o, H a = some o) : ∃ u, H' a = some u := by rw [← N]; exact ex_upd h
theorem ex_stay {b : Addr} {H H' : Hp} (s : Stay b H H') {a : Addr} (n : a ≠ b) (h : ∃ o, H a = some o) : ∃ o, H' a = some o := by
  obtain ⟨o, h⟩ := h
  exact ⟨o, s _ _ n h⟩
/-! ### all stays but for some objects -/
def Keep (M : Addr → Prop) (H H' : Hp) : Prop := ∀ a o, ¬ M a → H a = some o → H' a = some o
theorem Keep.refl (M : Addr → Prop) (H : Hp) : Keep M H H := fun _ _ _ h => h
theorem Keep.trans {M : Addr → Prop} {H H1 H2 : Hp} (x : Keep M H H1) (y : Keep M H1 H2) : Keep M H H2 := fun a o n h => y a o n (x a o n h)
theorem Keep.same {M : Addr → Prop} {H H1 H2 : Hp} (x : Keep M H H1) (y : Same H1 H2) : Keep M H H2 := fun a o n h => y a o (x a o n h)
theorem Keep.of {M : Addr → Prop} {H H' : Hp} (s : Same H H') : Keep M H H' := fun a o _ h => s a o h
theorem Keep.stay {M : Addr → Prop} {H H1 H2 : Hp} {b : Addr} (x : Keep M H H1) (y : Stay b H1 H2) (hb : M b) : Keep M H H2 := fun a o n h => y a o (fun e => n (by rw [e]; exact hb)) (x a o n h)
theorem Keep.put {M : Addr → Prop} {H H1 : Hp} {b : Addr} {o : HO} (x : Keep M H H1) (hb : M b) : Keep M H (upd H1 b o) := fun a u n h => (upd_ne fun e => n (by rw [e]; exact hb)).trans (x a u n h)
theorem Keep.new {M : Addr → Prop} {H H1 : Hp} {p : Addr} {o : HO} (x : Keep M H H1) (hp : H1 p = none) : Keep M H (upd H1 p o) := fun a u n h => (upd_ne (ne_of_none (x a u n h) hp)).trans (x a u n h)
theorem TripsAt.keep {M : Addr → Prop} {H H' : Hp} {l : Addr} {ts : Ts} (h : TripsAt H l ts) (s : Keep M H H') (hl : ¬ M l) (ht : ∀ a xs, H a = some (.tup xs) → ¬ M a) : TripsAt H' l ts := by
  obtain ⟨xs, h1, h2⟩ := h
  exact ⟨xs, s _ _ hl h1, paired_map (fun _ _ q => by
    obtain ⟨a, e, h⟩ := q
    exact ⟨a, e, s _ _ (ht _ _ h) h⟩) h2⟩
theorem DomIn.keep {M : Addr → Prop} {C : Addr} {H H' : Hp} {p : Addr} {wm : Ws} {ts : Ts} {dx d l : Addr} (h : DomIn C H p wm ts dx d l) (s : Keep M H H') (hp : ¬ M p) (hd : ¬ M d) (hl : ¬ M l) (ht : ∀ a xs, H a = some (.tup xs) → ¬ M a) : DomIn C H' p wm ts dx d l :=
  ⟨s _ _ hp h.1, ⟨s _ _ hd h.2.1.at_, h.2.1.nd⟩, h.2.2.keep s hl ht⟩
theorem Keep.mono {M M' : Addr → Prop} {H H' : Hp} (x : Keep M H H') (f : ∀ a, M a → M' a) : Keep M' H H' := fun a o n h => x a o (fun e => n (f a e)) h
theorem Keep.unlock {M : Addr → Prop} {H H' : Hp} {d : Addr} {o : Obj} {u : HO} (x : Keep M (upd H d (.frz o u)) H') (h : H d = some u) : Keep M H (upd H' d u) := fun a v n e => by
  by_cases z : a = d
  · subst z
    rw [h] at e
    rw [upd_same]
    exact e
  · rw [upd_ne z]
    exact x a v n ((upd_ne z).trans e)
theorem Keep.lock {M : Addr → Prop} {H : Hp} {d : Addr} {u : HO} (hd : ¬ M d) : ∀ {a : Addr} {v : HO}, a ≠ d → H a = some v → upd H d u a = some v := fun n e => (upd_ne n).trans e
theorem Keep.since {M : Addr → Prop} {H H1 H2 : Hp} (s : Same H H1) (x : Keep M H1 H2) (f : ∀ a, M a → H a = none) : Same H H2 := fun a o e => x a o (fun m => by rw [f a m] at e; cases e) (s a o e)
theorem funD_ok0 {P : Program} {w : World} {K : PySem.W.Frag} {mg : Str → Option Value} {base : Heap} {x qual : Str} {params : Arguments} {body : List Stmt} {scope : Scope} {dvs : List V} {kws : List (Str × V)} {f : Addr} {fd : FuncData} {N ps : List Str} {k : Nat} {sp : Sp} (F : FunD K x qual params body scope dvs kws f fd) (S : FnScope N ps scope) (len : ∀ vs H Q E, sp vs H Q E → vs.length = ps.length)
    (hbody : ∀ (cdv : Value) (A : Around) (outer : List Env) (s : Shared) (H : Hp) (vs : List V) (Q : VK) (E : XK), Room k (A.deeper (envOfC qual scope s.heap.objs.size f cdv)) → sp vs H Q E →
      ∃ t, PSs (cxOf CX0 P w K mg base N qual scope f cdv A outer s H E).nox body t ∧ t { nx := fun _ H' => Q .non H', rt := Q } (L2.start N vs) H) : FnOk P w K mg base CX0 (k + 1) f fd ps sp := by
  refine FunD.ok F S len fun cdv A outer s H vs Q E hr hsp => ?_
  obtain ⟨t, h, q⟩ := hbody cdv A outer s H vs Q E hr hsp
  exact ⟨t, h.nox, q⟩
end Ow

set_option Elab.async false
set_option linter.all false
set_option maxRecDepth 100000
set_option maxHeartbeats 1000000
namespace Ow
open PySem PySem.Spec PyProof.Rows L2 ErX
/-! ### what is wrong with a domain -/
def l3 (w : Str) : Bool := decide (w = "any") || (decide (w = "none") || decide (w = "some"))
def r2 (w : Str) : Bool := decide (w = "first") || decide (w = "any")
def badN (wm : Ws) (y : Str) : Bool := !(isLc y.cps.toList) || !(l3 (wo wm y))
def badR (wm : Ws) (known : List Str) (t : Tr) : Bool := !(isRc t.1.cps.toList) || (decide (t.1 ∈ known) || (!(decide (t.2.1 ∈ wm.map (·.1)) && decide (wo wm t.2.1 = "some")) || !(r2 t.2.2)))
def firstR (wm : Ws) : List Str → Ts → Option Str
  | _, [] => none
  | known, t :: r => if badR wm known t = true then some t.1 else firstR wm (known ++ [t.1]) r
def wrongD (ys : List Str) (wm : Ws) (ts : Ts) : Option Str := match ys.find? (badN wm) with
  | some y => some y
  | none => firstR wm [] ts
def Wr (wm : Ws) (ts : Ts) (r : Option Str) : Prop := ∃ ys : List Str, ys.Perm (wm.map (·.1)) ∧ sortedS ys = true ∧ r = wrongD ys wm ts
theorem Wr.one {wm : Ws} {ts : Ts} {r q : Option Str} (a : Wr wm ts r) (b : Wr wm ts q) : r = q := by
  obtain ⟨ys, p1, s1, e1⟩ := a
  obtain ⟨zs, p2, s2, e2⟩ := b
  have : ys = zs := (srt_iff p1 p2 s1 s2).mpr (List.Perm.refl _)
  rw [e1, e2, this]
theorem find_at {p : Str → Bool} : ∀ {ys : List Str} {i : Nat} {y : Str}, (∀ z ∈ ys.take i, p z = false) → ys[i]? = some y → p y = true → ys.find? p = some y
  | [], _, _, _, h, _ => by cases h
  | a :: ys, 0, y, _, h, hp => by
    cases h
    rw [List.find?_cons, hp]
  | a :: ys, i + 1, y, h0, h, hp => by
    rw [List.take_succ_cons] at h0
    rw [List.find?_cons, h0 a List.mem_cons_self]
    exact find_at (fun z hz => h0 z (List.mem_cons_of_mem _ hz)) (by simpa using h) hp
theorem find_no {p : Str → Bool} {ys : List Str} (h : ∀ z ∈ ys, p z = false) : ys.find? p = none := List.find?_eq_none.mpr fun z hz => by rw [h z hz]; exact Bool.false_ne_true
theorem wr_name {ys : List Str} {wm : Ws} {ts : Ts} {i : Nat} {y : Str} (hp : ys.Perm (wm.map (·.1))) (hs : sortedS ys = true) (h : ∀ z ∈ ys.take i, badN wm z = false) (hy : ys[i]? = some y) (hb : badN wm y = true) : Wr wm ts (some y) :=
  ⟨ys, hp, hs, by unfold wrongD; rw [find_at h hy hb]⟩
theorem wr_rest {ys : List Str} {wm : Ws} {ts : Ts} (hp : ys.Perm (wm.map (·.1))) (hs : sortedS ys = true) (h : ∀ z ∈ ys, badN wm z = false) : Wr wm ts (firstR wm [] ts) :=
  ⟨ys, hp, hs, by unfold wrongD; rw [find_no h]⟩
theorem drop_at {ts : Ts} {i : Nat} {t : Tr} (h : ts[i]? = some t) : ts.drop i = t :: ts.drop (i + 1) := by
  obtain ⟨hi, e⟩ := List.getElem?_eq_some_iff.mp h
  rw [List.drop_eq_getElem_cons hi, e]
theorem take_at {ts : Ts} {i : Nat} {t : Tr} (h : ts[i]? = some t) : (ts.take (i + 1)).map (·.1) = (ts.take i).map (·.1) ++ [t.1] := by
  rw [List.take_succ, h, List.map_append]
  rfl
theorem firstR_go {wm : Ws} {ts : Ts} {i : Nat} {t : Tr} (h : ts[i]? = some t) (hb : badR wm ((ts.take i).map (·.1)) t = false) : firstR wm ((ts.take i).map (·.1)) (ts.drop i) = firstR wm ((ts.take (i + 1)).map (·.1)) (ts.drop (i + 1)) := by
  rw [drop_at h, take_at h]
  show (if badR wm ((ts.take i).map (·.1)) t = true then some t.1 else firstR wm ((ts.take i).map (·.1) ++ [t.1]) (ts.drop (i + 1))) = _
  rw [hb, if_neg Bool.false_ne_true]
theorem firstR_at {wm : Ws} {ts : Ts} {i : Nat} {t : Tr} (h : ts[i]? = some t) (hb : badR wm ((ts.take i).map (·.1)) t = true) : firstR wm ((ts.take i).map (·.1)) (ts.drop i) = some t.1 := by
  rw [drop_at h]
  show (if badR wm ((ts.take i).map (·.1)) t = true then some t.1 else firstR wm ((ts.take i).map (·.1) ++ [t.1]) (ts.drop (i + 1))) = _
  rw [hb, if_pos rfl]
/-- the texts are of moderate length -/
structure SmD (wm : Ws) (ts : Ts) : Prop where
  w : ∀ q ∈ wm, Sm q.1 ∧ Sm q.2
  t : ∀ t ∈ ts, Sm t.1 ∧ Sm t.2.1 ∧ Sm t.2.2
theorem sm_sym {x : Str} (h : isSym x = true) : Sm x := ⟨Nat.le_trans (sym_small h) (by decide), sym_cps h⟩
theorem sm_any : Sm "any" := ⟨by decide +kernel, by decide +kernel⟩
theorem sm_none : Sm "none" := ⟨by decide +kernel, by decide +kernel⟩
theorem sm_some : Sm "some" := ⟨by decide +kernel, by decide +kernel⟩
theorem sm_first : Sm "first" := ⟨by decide +kernel, by decide +kernel⟩
theorem OkD.sm {wm : Ws} {ts : Ts} (h : OkD wm ts) : SmD wm ts := by
  have w1 : ∀ {w : Str}, (w = "any" ∨ w = "none" ∨ w = "some") → Sm w := fun {w} e => by
    rcases e with e | e | e
    · rw [e]; exact sm_any
    · rw [e]; exact sm_none
    · rw [e]; exact sm_some
  refine ⟨fun q hq => ⟨sm_sym (h.sym q.1 (List.mem_append_left _ (List.mem_map.mpr ⟨q, hq, rfl⟩))), w1 (h.nam q hq).2⟩, fun t ht => ⟨sm_sym (h.sym t.1 (List.mem_append_right _ (List.mem_map.mpr ⟨t, ht, rfl⟩))), ?_, ?_⟩⟩
  · exact sm_sym (h.sym _ (List.mem_append_left _ (List.mem_map.mpr ⟨_, (h.rnd t ht).2.1, rfl⟩)))
  · rcases (h.rnd t ht).2.2 with e | e
    · rw [e]; exact sm_first
    · rw [e]; exact sm_any
theorem SmD.wo {wm : Ws} {ts : Ts} (h : SmD wm ts) {y : Str} (hy : y ∈ wm.map (·.1)) : Sm (wo wm y) := (h.w _ (wo_mem hy)).2
theorem SmD.key {wm : Ws} {ts : Ts} (h : SmD wm ts) {y : Str} (hy : y ∈ wm.map (·.1)) : Sm y := (h.w _ (wo_mem hy)).1
/-- a text is in three words, in two -/
theorem inV_l3 (w : Str) : inV (.str w) [V.str "any", V.str "none", V.str "some"] = l3 w := by
  rw [show [V.str "any", V.str "none", V.str "some"] = (["any", "none", "some"] : List Str).map V.str from rfl, inV_str]
  unfold l3
  simp
theorem inV_r2 (w : Str) : inV (.str w) [V.str "first", V.str "any"] = r2 w := by
  rw [show [V.str "first", V.str "any"] = (["first", "any"] : List Str).map V.str from rfl, inV_str]
  unfold r2
  simp
theorem kvT_out : ∀ {m : Ws} {y : Str}, y ∉ m.map (·.1) → valV (kvT m) (Sum.inr y) = none
  | [], _, _ => rfl
  | (x, u) :: r, y, h => by
    rw [List.map_cons, List.mem_cons, not_or] at h
    show valV (((Sum.inr x : Key), V.str u) :: kvT r) (Sum.inr y) = none
    rw [valV_neg (fun q => h.1 (Sum.inr.inj q).symm), kvT_out h.2]
/-- the promise of a domain's making, wrong or right -/
def spDInitX (K : PySem.W.Frag) (C CB : Addr) : Sp := fun vs H Q E => ∃ (x d r dx : Addr) (xs : List V) (wm : Ws) (ts : Ts), vs = [.ref x, .ref d, .ref r] ∧ H x = some (.ins C dx []) ∧ WAt H d wm ∧ (SqL K H r xs ∨ SqT K H r xs) ∧ Paired (TripAt H) xs ts ∧ SmD wm ts ∧ wm.length ≤ 8 ∧ ts.length ≤ 8 ∧
  (Wr wm ts none → ∀ H' e l, DomIn C H' x wm ts dx e l → H e = none → H l = none → Stay x H H' → Q .non H') ∧
  (∀ s, Wr wm ts (some s) → ∀ d' H', H d' = none → H' d' = some (.xd [("symbol", .str s)]) → Stay x H H' → E (.ref CB) (some d') H')
end Ow

set_option Elab.async false
set_option linter.all false
set_option maxRecDepth 100000
set_option maxHeartbeats 1000000
namespace OpX
open PySem PySem.Spec PyProof.Rows L2
/-! a text times an int -/
def rMulS : R2 := fun x y H Q => ∃ (z : Str) (i : Int), x = .str z ∧ y = .int i ∧ z.length ≤ 16 ∧ 0 ≤ i ∧ i ≤ 1048576 ∧ Q (.str (Txt.mul z i)) H
theorem op_mul_str {X : Cx} : OpR X (binaryOp .Mult) rMulS := by
  intro pins s σ H x y v u Q I rx ry h
  obtain ⟨z, i, rfl, rfl, hz, h0, h1, q⟩ := h
  obtain ⟨t, rfl⟩ := rx
  obtain ⟨t', rfl⟩ := ry
  exact SB.mul (mulOk_of 16 1048576 (by omega) (by omega) (by omega) (by decide) (by decide)) fun t' k => ⟨.str _, H, I.tok _, ⟨_, rfl⟩, q⟩
end OpX
namespace Ow
open PySem PySem.Spec PyProof.Rows L2 ErX
instance (x : Str) : Decidable (Sm x) := by
  have : Sm x ↔ (x.cps.toList.length ≤ 1000 ∧ ∀ c ∈ x.cps.toList, c < 1114112) := ⟨fun h => ⟨h.1, h.2⟩, fun h => ⟨h.1, h.2⟩⟩
  exact decidable_of_iff _ this.symm
theorem kit_ref {K : PySem.W.Frag} {C D : Addr} (hd : PySem.W.hasDictIn K D = true) (ht : PySem.W.typeIn K (.ref D) = some (.type "type")) (h : PySem.W.subIn K (.ref C) (.ref D) = some true) : PySem.W.kitOne K (.ref C) (.ref D) = some true := by
  obtain ⟨cd, hc, _⟩ := PySem.W.any_some hd
  unfold PySem.W.kitOne
  split
  · rfl
  · show (if ((PySem.W.clsIn K D).isSome && PySem.W.typeIn K (.ref D) == some (.type "type")) = true then PySem.W.subIn K (.ref C) (.ref D) else none) = some true
    rw [if_pos (by rw [hc, ht]; rfl)]
    exact h
def mulE (n : Int) : Str := ("r" : Str) ++ Txt.mul "2" n
theorem sm_60 : Sm (mulE 60) := by decide +kernel
theorem sm_61 : Sm (mulE 61) := by decide +kernel
end Ow

set_option Elab.async false
set_option linter.all false
set_option maxRecDepth 100000
set_option maxHeartbeats 1000000
/-! forms, made of right or wrong symbols -/
namespace Ow
open PySem PySem.Spec PyProof.Rows L2 ErX
def odd (z : Str) : Bool := !isSym z
def spInitX (C CB : Addr) : Sp := fun vs H Q E => ∃ (x d dx : Addr) (c : Int) (m : Ps), vs = [.ref x, .int c, .ref d] ∧ H x = some (.ins C dx []) ∧ H d = some (.dK (kvI m)) ∧ (m.map (·.1)).Nodup ∧ (∀ q ∈ m, Sm q.1) ∧ m.length < 64 ∧
  ((∀ q ∈ m, isSym q.1 = true) → ∀ d' H', H d' = none → H' x = some (.ins C dx (fF c d')) → DictAt H' d' (nzs m) → Stay x H H' → Q .non H') ∧
  (∀ ys y, ys.Perm (m.map (·.1)) → sortedS ys = true → ys.find? odd = some y → ∀ d' H', H d' = none → H' d' = some (.xd [("symbol", .str y)]) → Stay x H H' → E (.ref CB) (some d') H')
def spOfX (C CB : Addr) : Sp := fun vs H Q E => ∃ (c : Int) (l : Addr) (ps : Ps), vs = [.ref C, .int c, .ref l] ∧ PairsAt H l ps ∧ (∀ q ∈ ps, Sm q.1) ∧ ps.length < 64 ∧
  ((∀ q ∈ ps, isSym q.1 = true) → ∀ p m H', H p = none → FormAt C H' p c m → Same H H' → Q (.ref p) H') ∧
  (∀ y, (ps.map (·.1)).find? odd = some y → ∀ d' H', H d' = none → H' d' = some (.xd [("symbol", .str y)]) → Same H H' → E (.ref CB) (some d') H')
theorem odd_no {l : List Str} (h : ∀ z ∈ l, isSym z = true) : l.find? odd = none := find_no fun z hz => by unfold odd; rw [h z hz]; rfl
theorem odd_none {l : List Str} (h : l.find? odd = none) : ∀ z ∈ l, isSym z = true := fun z hz => by
  have := List.find?_eq_none.mp h z hz
  unfold odd at this
  simpa using this
end Ow

set_option Elab.async false
set_option linter.all false
set_option maxRecDepth 100000
set_option maxHeartbeats 1000000
/-! picks, cuts of lists and of texts -/
namespace OpX
open PySem PySem.Spec PyProof.Rows L2
/-! x is not y, two bools -/
theorem op_notB {X : Cx} : OpR X (compareOp .IsNot) (fun x y H Q => ∃ a b, x = .bl a ∧ y = .bl b ∧ Q (.bl (!decide (a = b))) H) := by
  intro pins s σ H x y v u Q I rx ry h
  obtain ⟨a, b, rfl, rfl, q⟩ := h
  cases (show v = Value.bool a from rx)
  cases (show u = Value.bool b from ry)
  exact wpAny_isNot_plain rfl (fin_bl I q (by cases a <;> cases b <;> rfl))
end OpX
namespace Ow
open PySem PySem.Spec PyProof.Rows L2 ErX
def spPick : Sp := fun vs H Q _ => ∃ (b l : Addr) (n : Nat) (xs : List V), vs = [.ref b, .ref l] ∧ BagAt H b n ∧ n < 900000000 ∧ H l = some (.lst xs) ∧ l ≠ b ∧ 0 < xs.length ∧ xs.length ≤ 64 ∧ ∀ (i : Nat) v H', xs[i]? = some v → BagAt H' b (n + 1) → Stay b H H' → Q v H'
theorem pick_sm {l : List Str} {i : Nat} {v : V} (e : (l.map V.str)[i]? = some v) (h : ∀ y ∈ l, Sm y) : ∃ y, y ∈ l ∧ v = .str y ∧ Sm y := by
  rw [List.getElem?_map] at e
  cases q : l[i]? with
  | none => rw [q] at e; cases e
  | some y =>
    rw [q] at e
    cases e
    have m := List.mem_of_getElem? q
    exact ⟨y, m, rfl, h y m⟩
theorem cut_take {xs : List V} {j : Nat} (h : j ≤ xs.length) : cutV xs none (some (j : Int)) = xs.take j := by
  unfold cutV
  rw [HT.sIx_none, HT.sIx_nat, Nat.min_eq_left h, List.drop_zero, Nat.sub_zero]
theorem cut_from {xs : List V} {j : Nat} (h : j ≤ xs.length) : cutV xs (some (j : Int)) none = xs.drop j := by
  unfold cutV
  rw [HT.sIx_none, HT.sIx_nat, Nat.min_eq_left h, ← List.length_drop, List.take_length]
theorem paired_take {α β : Type} {F : α → β → Prop} : ∀ {l : List α} {m : List β} {i : Nat}, Paired F l m → Paired F (l.take i) (m.take i)
  | _, _, 0, _ => .nil
  | _, _, _ + 1, .nil => .nil
  | _, _, i + 1, .cons g r => .cons g (paired_take r)
theorem paired_drop {α β : Type} {F : α → β → Prop} : ∀ {l : List α} {m : List β} {i : Nat}, Paired F l m → Paired F (l.drop i) (m.drop i)
  | _, _, 0, h => h
  | _, _, _ + 1, .nil => .nil
  | _, _, i + 1, .cons g r => by
    rw [List.drop_succ_cons, List.drop_succ_cons]
    exact paired_drop r
theorem keepN {H : Hp} {p a : Addr} {o u : HO} (hp : H p = none) (h : H a = some u) : upd H p o a = some u := (upd_ne (ne_of_none h hp)).trans h
theorem gName_go {i : Nat} {v : V} {σ : L2.St} {H : Hp} {Q : L2.St → Hp → Prop} (h : Q (σ.set i (some v)) H) : gName i v σ H Q := h
theorem cutS_list (z : Str) (lo hi : Option Int) : ∃ i j, (cutS z lo hi).cps.toList = (z.cps.toList.drop i).take j := ⟨_, _, List.toList_toArray⟩
theorem cutS_sm {z : Str} (h : Sm z) (lo hi : Option Int) : (cutS z lo hi).cps.toList.length ≤ z.cps.toList.length ∧ ∀ c ∈ (cutS z lo hi).cps.toList, c < 1114112 := by
  obtain ⟨i, j, e⟩ := cutS_list z lo hi
  rw [e]
  refine ⟨?_, fun c hc => h.cps c (List.mem_of_mem_drop (List.mem_of_mem_take hc))⟩
  rw [List.length_take, List.length_drop]
  omega
theorem sm_app {x y : Str} {n : Nat} (hx : x.cps.toList.length + y.cps.toList.length ≤ 1000) (h1 : ∀ c ∈ x.cps.toList, c < 1114112) (h2 : ∀ c ∈ y.cps.toList, c < 1114112) : Sm (x ++ y) := by
  constructor
  · rw [Str.cps_append, Array.toList_append, List.length_append]
    exact hx
  · intro c hc
    rw [Str.cps_append, Array.toList_append] at hc
    rcases List.mem_append.mp hc with hc | hc
    · exact h1 c hc
    · exact h2 c hc
end Ow

set_option Elab.async false
set_option linter.all false
set_option maxRecDepth 100000
set_option maxHeartbeats 1000000
/-! functions as texts: what their rows are, row by row -/
namespace Fn
open PySem PySem.Spec PyProof.Rows L2 Ow
def OPN : List Str := ["each", "maybe", "try", "shield", "retry"]
def PLN : List Str := ["ask", "begin", "finish", "read", "head", "body", "pause", "check", "drain", "close", "return"]
def SNG : List Str := ["maybe", "try", "shield", "else", "finally", "rescue", "end"]
def TRI : List Str := ["1", "2", "3"]
/-- x is in l -/
def inS (l : List Str) (x : Str) : Bool := inV (.str x) (l.map V.str)
theorem flatS (l : List Str) : (l.map V.str).all flatV = true := by
  induction l with
  | nil => rfl
  | cons a l ih => simp [flatV, ih]
def mid (z : Str) : Option Str := if z = "else" then some "maybe" else if z = "finally" then some "try" else if z = "rescue" then some "try" else none
/-- the row written with one space between its words -/
def wds (r : Str) : List Str := (Txt.split r " ").filter fun y => !decide (V.str y = V.str "")
def spc (r : Str) : Str := Txt.join " " (wds r)
/-- its first word, as the program reads it -/
def hd (r : Str) : Str := ((Txt.split r " ")[0]?).getD ""
def sec (r : Str) : Str := ((Txt.split r " ")[1]?).getD ""
def pt1 (r : Str) : Str := (Txt.partition r " ").1
def pt3 (r : Str) : Str := (Txt.partition r " ").2.2
/-- a row that is written as it should be -/
def wr (r : Str) : Bool := if pt1 r = "each" then isLc (pt3 r).cps.toList else if pt1 r = "retry" then inS TRI (pt3 r) else inS PLN r || inS SNG r
/-- a row that the program may read -/
structure Row (r : Str) : Prop where
  len : r.length + 2 ≤ sizeLine
  p3 : (pt3 r).length ≤ sizeLine
  ne : Txt.split r " " ≠ []
def opW (word : Str) (ps : List Str) : Bool := if 5 ≤ ps.length then true else if word = "each" then inS ps "each" else decide (word = "retry") && decide (2 ≤ ps.countP (· == ("retry" : Str)))
def aft (ps : List Str) (x : Str) : List Str := ps.drop (ps.idxOf x + 1)
def bef (ps : List Str) (x : Str) : List Str := ps.take (ps.idxOf x)
def stW (word : Str) (ps : List Str) : Bool := if inS ps "each" = false then false else if inS (aft ps "each") "rescue" = false then true else decide (word = "close") && inS (bef (aft ps "each") "rescue") "retry"
def lastIs (ps : List Str) (x : Str) : Bool := decide (ps.getLast? = some x)
def isW (r : Str) (ps : List Str) : Bool :=
  if wr r = false then true
  else if inS OPN (hd r) = true then opW (hd r) ps
  else match mid (hd r) with
    | some m => ps.isEmpty || !lastIs ps m
    | none => if hd r = "end" then ps.isEmpty || lastIs ps "try"
      else if hd r = "return" then inS ps "finally" || inS ps "rescue"
      else inS ["drain", "close"] (hd r) && stW (hd r) ps
/-- the open blocks: the row that opened each, and its part -/
abbrev Bl := List (Nat × Str)
def sn (bs : Bl) : List Str := bs.map (·.2)
def fs (bs : Bl) : List Nat := bs.map (·.1)
def step (i : Nat) (r : Str) (bs : Bl) : Bl :=
  if inS OPN (hd r) = true then bs ++ [(i, hd r)]
  else if (mid (hd r)).isSome then bs.dropLast ++ (bs.getLast?.map fun b => (b.1, hd r)).toList
  else if hd r = "end" then bs.dropLast else bs
def stAt (rs : List Str) : Nat → Bl
  | 0 => []
  | i + 1 => match rs[i]? with | some r => step i r (stAt rs i) | none => stAt rs i
def bkAt (rs : List Str) : Nat → List V
  | 0 => []
  | i + 1 => bkAt rs i ++ [match (stAt rs i).getLast? with | some b => .int (b.1 : Nat) | none => .non]
def NotOk (rs : List Str) (i : Nat) : Prop := ∃ r, rs[i]? = some r ∧ isW r (sn (stAt rs i)) = true
/-- the first wrong row -/
def Bad (rs : List Str) (k : Nat) : Prop := (∀ j, j < k → ¬ NotOk rs j) ∧ (NotOk rs k ∨ (k = rs.length ∧ stAt rs k ≠ []))
def Good (rs : List Str) : Prop := (∀ j, j < rs.length → ¬ NotOk rs j) ∧ stAt rs rs.length = []
/-- the module's tuples and its dict -/
structure FnD (K : PySem.W.Frag) (w : World) (mg : Str → Option Value) (AO AP AS AT AM : Addr) (es : Array DictEntry) (en : Nat) : Prop where
  gO : mg "OPENERS" = some (.ref AO)
  gP : mg "PLAIN" = some (.ref AP)
  gS : mg "SINGLE" = some (.ref AS)
  gT : mg "TRIES" = some (.ref AT)
  gM : mg "MIDDLES" = some (.ref AM)
  sO : ∀ H, SqT K H AO (OPN.map V.str)
  sP : ∀ H, SqT K H AP (PLN.map V.str)
  sS : ∀ H, SqT K H AS (SNG.map V.str)
  sT : ∀ H, SqT K H AT (TRI.map V.str)
  kd : KDict K w AM es en
  kn : ∀ z, ∃ r, PySem.W.nsIn K AM z = some r ∧ r.isSome = (mid z).isSome
  kg : ∀ z v, mid z = some v → KDct K w AM z (.str v)
def spIsWr : Sp := fun vs H Q _ => ∃ r : Str, vs = [.str r] ∧ Row r ∧ ∀ H', Same H H' → Q (.bl (wr r)) H'
def spOpW (K : PySem.W.Frag) : Sp := fun vs H Q _ => ∃ (z : Str) (p : Addr) (ps : List Str), vs = [.str z, .ref p] ∧ SqL K H p (ps.map V.str) ∧ ∀ H', Same H H' → Q (.bl (opW z ps)) H'
def spStW (K : PySem.W.Frag) : Sp := fun vs H Q _ => ∃ (z : Str) (p : Addr) (ps : List Str), vs = [.str z, .ref p] ∧ SqL K H p (ps.map V.str) ∧ ∀ H', Same H H' → Q (.bl (stW z ps)) H'
def spIsW (K : PySem.W.Frag) : Sp := fun vs H Q _ => ∃ (r : Str) (p : Addr) (ps : List Str), vs = [.str r, .ref p] ∧ Row r ∧ H p = some (.lst (ps.map V.str)) ∧ ∀ H', Same H H' → Q (.bl (isW r ps)) H'
theorem inS_mem {l : List Str} {x : Str} : inS l x = true ↔ x ∈ l := by
  unfold inS inV
  rw [List.any_map, List.any_eq_true]
  constructor
  · rintro ⟨y, hy, e⟩
    have : (y == x) = true := e
    rw [← eq_of_beq this]
    exact hy
  · intro h
    exact ⟨x, h, show (x == x) = true from beq_self_eq_true x⟩
theorem idx_lt {l : List Str} {x : Str} (h : inS l x = true) : l.idxOf x < l.length := List.idxOf_lt_length_iff.mpr (inS_mem.mp h)
theorem idx_at {l : List Str} {x : Str} (h : inS l x = true) : (l.map V.str)[l.idxOf x]? = some (.str x) := by
  rw [List.getElem?_map, List.getElem?_eq_getElem (idx_lt h), List.getElem_idxOf]
  rfl
theorem idx_no {l : List Str} {x : Str} (m : Nat) (z : V) (h : m < l.idxOf x) (e : (l.map V.str)[m]? = some z) : eqV z (.str x) = false := by
  rw [List.getElem?_map] at e
  cases q : l[m]? with
  | none => rw [q] at e; cases e
  | some y =>
    rw [q] at e
    cases e
    have n := List.not_of_lt_findIdx (show m < l.findIdx (· == x) from h)
    obtain ⟨hm, e⟩ := List.getElem?_eq_some_iff.mp q
    rw [e] at n
    show (y == x) = false
    simpa using n
theorem eqS {a b : Str} (h : decide (V.str a = V.str b) = true) : a = b := V.str.inj (of_decide_eq_true h)
theorem neS {a b : Str} (h : ¬ decide (V.str a = V.str b) = true) : a ≠ b := fun e => h (decide_eq_true (by rw [e]))
theorem decS (a b : Str) : decide (V.str a = V.str b) = decide (a = b) := by
  rw [Bool.eq_iff_iff]
  simp
theorem not_tt {b : Bool} (h : ¬ b = true) : b = false := by cases b; rfl; exact absurd rfl h
theorem hd_at {r : Str} (h : Txt.split r " " ≠ []) : atI ((Txt.split r " ").map V.str) 0 = some (.str (hd r)) := by
  refine atI_nat (j := 0) ?_
  unfold hd
  cases e : Txt.split r " " with
  | nil => exact absurd e h
  | cons a l => rfl
theorem at_last {xs : List V} {x : V} (h : xs.getLast? = some x) : atI xs (-1) = some x := by
  rw [List.getLast?_eq_getElem?] at h
  have hl : xs.length - 1 < xs.length := (List.getElem?_eq_some_iff.mp h).1
  unfold atI ixN
  rw [if_neg (by decide), if_pos (by omega)]
  show xs[((-1 : Int) + (xs.length : Nat)).toNat]? = some x
  rw [show ((-1 : Int) + (xs.length : Nat)).toNat = xs.length - 1 by omega]
  exact h
theorem last_map (ps : List Str) : (ps.map V.str).getLast? = ps.getLast?.map V.str := List.getLast?_map
theorem emp_map (ps : List Str) : (ps.map V.str).isEmpty = ps.isEmpty := by cases ps <;> rfl
theorem last_of {ps : List Str} (h : ps.isEmpty = false) : ∃ x, ps.getLast? = some x := by
  cases e : ps.getLast? with
  | none => rw [List.getLast?_eq_none_iff] at e; rw [e] at h; cases h
  | some x => exact ⟨x, rfl⟩
theorem lastIs_some {ps : List Str} {x y : Str} (h : ps.getLast? = some x) : lastIs ps y = decide (V.str x = V.str y) := by
  unfold lastIs
  rw [h, decS, Bool.eq_iff_iff]
  simp
end Fn

set_option Elab.async false
set_option linter.all false
set_option maxRecDepth 100000
set_option maxHeartbeats 4000000
namespace Ow
open PySem PySem.Spec PyProof.Rows L2 Fn
local macro_rules | `(tactic| walk_at "rd") => `(tactic| repeat (first | (refine ⟨_, rfl, ?_⟩) | (refine ⟨_, _, rfl, rfl, ?_⟩) | (refine ⟨rfl, ?_⟩) | (refine ⟨_, _, rfl, ?_⟩) | (refine Or.inl ⟨_, rfl, ?_⟩) | (refine ⟨(by first | (show (0 : Int) < (_ : Int); decide) | exact Or.inl ⟨by decide, by decide⟩ | exact Or.inr ⟨by decide, by decide⟩ | exact ⟨by decide, by decide⟩ | exact ⟨by decide, by decide, by decide⟩), ?_⟩)))
section
variable {P : Program} {w : World} {K : PySem.W.Frag} {mg : Str → Option Value} {base : Heap} {AO AP AS AT AM : Addr} {es : Array DictEntry} {en : Nat}
abbrev s_is_written : Stmt := top 21
theorem sc_is_written : FnScope ["row", "word", "_", "more"] ["row"] (defScope s_is_written) := ⟨rfl, rfl, rfl, by decide +kernel, rfl, by decide +kernel, by decide +kernel⟩
theorem ok_iswr {f : Addr} {fd : FuncData} (F : Fun K "_is_written" "_is_written" s_is_written f fd) (T : Txt mg) (D : FnD K w mg AO AP AS AT AM es en) (c_isl : Cal P w K mg base "is_list_name" 1 spIsL) : FnOk P w K mg base CX0 2 f fd ["row"] spIsWr := by
  refine F.ok sc_is_written (fun vs H Q E h => ?_) (fun cdv A outer s H vs Q E hr h => ?_)
  · obtain ⟨x, rfl, _⟩ := h
    rfl
  · obtain ⟨x, rfl, hx, k⟩ := h
    have hu := hu_of hr
    refine ⟨_, (pss_cons (ps_asg (pe_partition (pv 0) pe_str) (pg_tup rfl (pgs_cons (pg_name (i := 1) sc_is_written.nd rfl (Or.inl rfl)) (pgs_cons (pg_name (i := 2) sc_is_written.nd rfl (Or.inl rfl)) (pgs_cons (pg_name (i := 3) sc_is_written.nd rfl (Or.inl rfl)) pgs_nil)))))
      (pss_cons (ps_if (pt_cmpR op_eq (pv 1) pe_str (nomark _)) (pss_one (ps_ret (pe_cal c_isl (hr.mono (by decide)) (pa_cons (pv 3) pa_nil)))) pss_nil)
      (pss_cons (ps_if (pt_cmpR op_eq (pv 1) pe_str (nomark _)) (pss_one (ps_ret (pe_cmpR op_in_seq (pv 3) (pe_glob (v := .ref AT) rfl D.gT rfl) rfl))) pss_nil)
      (pss_one (ps_ret (pe_or (pe_cmpR op_in_seq (pv 0) (pe_glob (v := .ref AP) rfl D.gP rfl) rfl) (pe_one (pe_cmpR op_in_seq (pv 0) (pe_glob (v := .ref AS) rfl D.gS rfl) rfl)))))))), ?_⟩
    have e1 : pt1 x = (Txt.partition x " ").1 := rfl
    have e3 : pt3 x = (Txt.partition x " ").2.2 := rfl
    walk_at "rd"
    refine ⟨⟨_, rfl⟩, ?_⟩
    refine ⟨_, _, rfl, rfl, rfl, Nat.le_trans (Nat.le_add_right _ 2) hx.len, fun q hq => ?_⟩
    refine ⟨q, _, rfl, SqT.of upd_same, rfl, ?_⟩
    walk_at "rd"
    have S1 := same_new (o := .tup [.str (Txt.partition x " ").1, .str (Txt.partition x " ").2.1, .str (Txt.partition x " ").2.2]) (fun a u (e : H a = some u) => e) hq
    refine ite2 (fun h1 => ?_) (fun h1 => ?_)
    · walk_at "rd"
      refine ⟨hx.p3, fun H' S2 => ?_⟩
      have e : wr x = isLc (pt3 x).cps.toList := by unfold wr; rw [if_pos (show pt1 x = "each" from eqS h1)]
      rw [← e3, ← e]
      exact k _ (same_trans S1 S2)
    · have n1 : ¬ pt1 x = "each" := neS h1
      walk_at "rd"
      refine ite2 (fun h2 => ?_) (fun h2 => ?_)
      · walk_at "rd"
        refine ⟨AT, _, rfl, .inr (D.sT _), rfl, flatS _, ?_⟩
        have e : wr x = inS TRI (pt3 x) := by unfold wr; rw [if_neg n1, if_pos (show pt1 x = "retry" from eqS h2)]
        show Q (.bl (inS TRI (pt3 x))) _
        rw [← e]
        exact k _ S1
      · have n2 : ¬ pt1 x = "retry" := neS h2
        have e : wr x = (inS PLN x || inS SNG x) := by unfold wr; rw [if_neg n1, if_neg n2]
        rw [e] at k
        walk_at "rd"
        refine ⟨AP, _, rfl, .inr (D.sP _), rfl, flatS _, ?_⟩
        walk_at "rd"
        refine ite2 (fun h3 => ?_) (fun h3 => ?_)
        · have := k _ S1
          rw [show inS PLN x = true from h3] at this
          exact this
        · walk_at "rd"
          refine ⟨AS, _, rfl, .inr (D.sS _), rfl, flatS _, ?_⟩
          have := k _ S1
          rw [show inS PLN x = false from not_tt h3] at this
          exact this
abbrev s_opens_wrongly : Stmt := top 22
theorem sc_opens_wrongly : FnScope ["word", "parts"] ["word", "parts"] (defScope s_opens_wrongly) := ⟨rfl, rfl, rfl, by decide +kernel, rfl, by decide +kernel, by decide +kernel⟩
theorem ok_opw {f : Addr} {fd : FuncData} (F : Fun K "_opens_wrongly" "_opens_wrongly" s_opens_wrongly f fd) (T : Txt mg) : FnOk P w K mg base CX0 1 f fd ["word", "parts"] (spOpW K) := by
  refine F.ok sc_opens_wrongly (fun vs H Q E h => ?_) (fun cdv A outer s H vs Q E hr h => ?_)
  · obtain ⟨z, p, ps, rfl, _⟩ := h
    rfl
  · obtain ⟨z, p, ps, rfl, hp, k⟩ := h
    have hu := hu_of hr
    refine ⟨_, (pss_cons (ps_if (pt_cmpR op_ge (pe_callB call_len_seq (by rfl) T.n_len (by decide +kernel) (pa_cons (pv 1) pa_nil)) (pe_globI rfl T.mg_MOST_DEPTH) (nomark _)) (pss_one (ps_ret pe_bl)) pss_nil)
      (pss_cons (ps_if (pt_cmpR op_eq (pv 0) pe_str (nomark _)) (pss_one (ps_ret (pe_cmpR op_in_seq pe_str (pv 1) rfl))) pss_nil)
      (pss_one (ps_ret (pe_and (pe_cmpR op_eq (pv 0) pe_str (nomark _)) (pe_one (pe_cmpR op_ge (pe_bm PySem.F.plainAttrs_list PySem.F.slot_list_count PySem.F.type_list_count EnT.mt_lcountS (pv 1) (pa_cons pe_str pa_nil)) (pe_globI rfl T.mg_MOST_RETRIES) (nomark _)))))))), ?_⟩
    walk_at "rd"
    refine ⟨p, _, rfl, .inl hp, ?_⟩
    walk_at "rd"
    have S0 : Same H H := fun _ _ e => e
    refine ite2 (fun h1 => ?_) (fun h1 => ?_)
    · have e : opW z ps = true := by
        have h1 := of_decide_eq_true h1
        rw [List.length_map] at h1
        unfold opW
        rw [if_pos (by omega)]
      walk_at "rd"
      rw [← e]
      exact k _ S0
    · have n1 : ¬ 5 ≤ ps.length := fun h => h1 (decide_eq_true (by rw [List.length_map]; omega))
      walk_at "rd"
      refine ite2 (fun h2 => ?_) (fun h2 => ?_)
      · walk_at "rd"
        refine ⟨p, _, rfl, .inl hp, rfl, flatS _, ?_⟩
        have e : opW z ps = inS ps "each" := by
          unfold opW
          rw [if_neg n1, if_pos (eqS h2)]
        show Q (.bl (inS ps "each")) _
        rw [← e]
        exact k _ S0
      · have e : opW z ps = (decide (z = "retry") && decide (2 ≤ ps.countP (· == ("retry" : Str)))) := by
          unfold opW
          rw [if_neg n1, if_neg (neS h2)]
        rw [e] at k
        walk_at "rd"
        refine ite2 (fun h3 => ?_) (fun h3 => ?_)
        · walk_at "rd"
          refine ⟨.inl ⟨rfl, _, hp⟩, p, ps, _, rfl, rfl, hp, ?_⟩
          walk_at "rd"
          have := k _ S0
          rw [← decS, h3] at this
          have e2 : decide (2 ≤ ps.countP (· == ("retry" : Str))) = decide ((2 : Int) ≤ ((ps.countP (· == ("retry" : Str)) : Nat) : Int)) := by
            rw [Bool.eq_iff_iff]
            simp only [decide_eq_true_eq]
            omega
          rw [e2] at this
          exact this
        · have := k _ S0
          rw [← decS, not_tt h3] at this
          exact this
abbrev s_stops_wrongly : Stmt := top 23
theorem sc_stops_wrongly : FnScope ["word", "parts", "inner"] ["word", "parts"] (defScope s_stops_wrongly) := ⟨rfl, rfl, rfl, by decide +kernel, rfl, by decide +kernel, by decide +kernel⟩
theorem ok_stw {f : Addr} {fd : FuncData} (F : Fun K "_stops_wrongly" "_stops_wrongly" s_stops_wrongly f fd) (T : Txt mg) : FnOk P w K mg base CX0 1 f fd ["word", "parts"] (spStW K) := by
  refine F.ok sc_stops_wrongly (fun vs H Q E h => ?_) (fun cdv A outer s H vs Q E hr h => ?_)
  · obtain ⟨z, p, ps, rfl, _⟩ := h
    rfl
  · obtain ⟨z, p, ps, rfl, hp, k⟩ := h
    have hu := hu_of hr
    refine ⟨_, (pss_cons (ps_if (pt_cmpR op_notIn_seq pe_str (pv 1) rfl) (pss_one (ps_ret pe_bl)) pss_nil)
      (pss_cons (ps_set (i := 2) sc_stops_wrongly.nd rfl (Or.inl rfl) (pe_slice sl_list (pv 1) (po_some (pe_op op_add (pe_bm PySem.F.plainAttrs_list PySem.F.slot_list_index PySem.F.type_list_index mt_index (pv 1) (pa_cons pe_str pa_nil)) pe_int)) po_none))
      (pss_cons (ps_if (pt_cmpR op_notIn_seq pe_str (pv 2) rfl) (pss_one (ps_ret pe_bl)) pss_nil)
      (pss_one (ps_ret (pe_and (pe_cmpR op_eq (pv 0) pe_str (nomark _)) (pe_one (pe_cmpR op_in_seq pe_str (pe_slice sl_list (pv 2) po_none (po_some (pe_bm PySem.F.plainAttrs_list PySem.F.slot_list_index PySem.F.type_list_index mt_index (pv 2) (pa_cons pe_str pa_nil)))) rfl)))))))), ?_⟩
    walk_at "rd"
    have S0 : Same H H := fun _ _ e => e
    refine ⟨p, _, rfl, .inl hp, rfl, flatS _, ?_⟩
    walk_at "rd"
    refine ite2 (fun h1 => ?_) (fun h1 => ?_)
    · have n1 : inS ps "each" = false := by
        have : (!inS ps "each") = true := h1
        simpa using this
      have e : stW z ps = false := by unfold stW; rw [if_pos n1]
      walk_at "rd"
      rw [← e]
      exact k _ S0
    · have n1 : inS ps "each" = true := by
        have : ¬ (!inS ps "each") = true := h1
        simpa using this
      walk_at "rd"
      refine ⟨.inl ⟨rfl, _, hp⟩, ?_⟩
      refine ⟨p, _, _, ps.idxOf ("each" : Str), _, rfl, rfl, hp, rfl, flatS _, idx_at n1, beq_self_eq_true _, fun m z' h e => idx_no m z' h e, ?_⟩
      walk_at "rd"
      refine ⟨p, _, rfl, hp, fun q hq => ?_⟩
      have ec : cutV (ps.map V.str) (some ((ps.idxOf ("each" : Str) : Nat) + 1 : Int)) none = (aft ps "each").map V.str := by
        have := cut_from (xs := ps.map V.str) (j := ps.idxOf ("each" : Str) + 1) (by rw [List.length_map]; exact idx_lt n1)
        unfold aft
        rw [List.map_drop, ← this]
        rfl
      rw [ec]
      have S1 := same_new (o := .lst ((aft ps "each").map V.str)) (fun a u (e : H a = some u) => e) hq
      walk_at "rd"
      refine ⟨q, _, rfl, .inl (SqL.of upd_same), rfl, flatS _, ?_⟩
      walk_at "rd"
      refine ite2 (fun h2 => ?_) (fun h2 => ?_)
      · have n2 : inS (aft ps "each") "rescue" = false := by
          have : (!inS (aft ps "each") "rescue") = true := h2
          simpa using this
        have e : stW z ps = true := by unfold stW; rw [if_neg (by rw [n1]; decide), if_pos n2]
        walk_at "rd"
        rw [← e]
        exact k _ S1
      · have n2 : inS (aft ps "each") "rescue" = true := by
          have : ¬ (!inS (aft ps "each") "rescue") = true := h2
          simpa using this
        have e : stW z ps = (decide (z = "close") && inS (bef (aft ps "each") "rescue") "retry") := by unfold stW; rw [if_neg (by rw [n1]; decide), if_neg (by rw [n2]; decide)]
        rw [e] at k
        walk_at "rd"
        refine ite2 (fun h3 => ?_) (fun h3 => ?_)
        · walk_at "rd"
          refine ⟨.inl ⟨rfl, _, SqL.of upd_same⟩, q, _, _, (aft ps "each").idxOf ("rescue" : Str), _, rfl, rfl, SqL.of upd_same, rfl, flatS _, idx_at n2, beq_self_eq_true _, fun m z' h e => idx_no m z' h e, ?_⟩
          walk_at "rd"
          refine ⟨q, _, rfl, SqL.of upd_same, fun q2 hq2 => ?_⟩
          have ec2 : cutV ((aft ps "each").map V.str) none (some (((aft ps "each").idxOf ("rescue" : Str) : Nat) : Int)) = (bef (aft ps "each") "rescue").map V.str := by
            rw [cut_take (by rw [List.length_map]; exact Nat.le_of_lt (idx_lt n2))]
            unfold bef
            rw [List.map_take]
          rw [ec2]
          refine ⟨q2, _, rfl, .inl (SqL.of upd_same), rfl, flatS _, ?_⟩
          have := k _ (same_new (o := .lst ((bef (aft ps "each") "rescue").map V.str)) S1 hq2)
          rw [← decS, h3] at this
          exact this
        · have := k _ S1
          rw [← decS, not_tt h3] at this
          exact this
abbrev s_is_wrong : Stmt := top 24
theorem sc_is_wrong : FnScope ["row", "parts", "word"] ["row", "parts"] (defScope s_is_wrong) := ⟨rfl, rfl, rfl, by decide +kernel, rfl, by decide +kernel, by decide +kernel⟩
theorem ok_isw {f : Addr} {fd : FuncData} (F : Fun K "_is_wrong" "_is_wrong" s_is_wrong f fd) (T : Txt mg) (D : FnD K w mg AO AP AS AT AM es en) (c_iswr : Cal P w K mg base "_is_written" 2 spIsWr) (c_opw : Cal P w K mg base "_opens_wrongly" 1 (spOpW K)) (c_stw : Cal P w K mg base "_stops_wrongly" 1 (spStW K)) : FnOk P w K mg base CX0 3 f fd ["row", "parts"] (spIsW K) := by
  refine F.ok sc_is_wrong (fun vs H Q E h => ?_) (fun cdv A outer s H vs Q E hr h => ?_)
  · obtain ⟨z, p, ps, rfl, _⟩ := h
    rfl
  · obtain ⟨z, p, ps, rfl, hz, hp, k⟩ := h
    have hu := hu_of hr
    refine ⟨_, (pss_cons (ps_if (pt_not (pt_val (pe_cal c_iswr (hr.mono (by decide)) (pa_cons (pv 0) pa_nil)))) (pss_one (ps_ret pe_bl)) pss_nil)
      (pss_cons (ps_set (i := 2) sc_is_wrong.nd rfl (Or.inl rfl) (pe_ix ix_list (pe_split (pv 0) pe_str) pe_int (fun _ _ => rfl)))
      (pss_cons (ps_if (pt_cmpR op_in_seq (pv 2) (pe_glob (v := .ref AO) rfl D.gO rfl) rfl) (pss_one (ps_ret (pe_cal c_opw (hr.mono (by decide)) (pa_cons (pv 2) (pa_cons (pv 1) pa_nil))))) pss_nil)
      (pss_cons (ps_if (pt_cmpR (op_in_kd D.kd) (pv 2) (pe_glob (v := .ref AM) rfl D.gM rfl) rfl) (pss_one (ps_ret (pe_or (pe_notT (pv 1)) (pe_one (pe_cmpR op_ne (pe_ix ix_list (pv 1) (pe_un un_neg pe_int) (fun _ _ => rfl)) (pe_ix ix_kdict (pe_glob (v := .ref AM) rfl D.gM rfl) (pv 2) (fun _ _ => rfl)) (nomark _)))))) pss_nil)
      (pss_cons (ps_if (pt_cmpR op_eq (pv 2) pe_str (nomark _)) (pss_one (ps_ret (pe_or (pe_notT (pv 1)) (pe_one (pe_cmpR op_eq (pe_ix ix_list (pv 1) (pe_un un_neg pe_int) (fun _ _ => rfl)) pe_str (nomark _)))))) pss_nil)
      (pss_cons (ps_if (pt_cmpR op_eq (pv 2) pe_str (nomark _)) (pss_one (ps_ret (pe_or (pe_cmpR op_in_seq pe_str (pv 1) rfl) (pe_one (pe_cmpR op_in_seq pe_str (pv 1) rfl))))) pss_nil)
      (pss_one (ps_ret (pe_and (pe_cmpR op_in_seq (pv 2) (pe_tup (pa_cons pe_str (pa_cons pe_str pa_nil))) rfl) (pe_one (pe_cal c_stw (hr.mono (by decide)) (pa_cons (pv 2) (pa_cons (pv 1) pa_nil))))))))))))), ?_⟩
    walk_at "rd"
    refine ⟨hz, fun H1 S1 => ?_⟩
    walk_at "rd"
    refine ite2 (fun h1 => ?_) (fun h1 => ?_)
    · have e : isW z ps = true := by unfold isW; rw [if_pos (by simpa using h1)]
      walk_at "rd"
      rw [← e]
      exact k _ S1
    · have n1 : ¬ wr z = false := by simpa using h1
      walk_at "rd"
      refine ⟨⟨_, rfl⟩, ?_⟩
      refine ⟨_, _, rfl, rfl, rfl, hz.len, fun q hq => ?_⟩
      have S2 := same_new (o := .lst ((Txt.split z " ").map V.str)) S1 hq
      generalize hH2 : upd H1 q (.lst ((Txt.split z " ").map V.str)) = H2 at S2
      have hq2 : H2 q = some (.lst ((Txt.split z " ").map V.str)) := by rw [← hH2]; exact upd_same
      clear hH2 hq
      walk_at "rd"
      refine ⟨q, _, _, _, rfl, rfl, SqL.of hq2, hd_at hz.ne, ?_⟩
      have hp2 := S2 _ _ hp
      walk_at "rd"
      refine ⟨AO, _, rfl, .inr (D.sO _), rfl, flatS _, ?_⟩
      walk_at "rd"
      refine ite2 (fun h2 => ?_) (fun h2 => ?_)
      · have e : isW z ps = opW (hd z) ps := by unfold isW; rw [if_neg n1, if_pos (show inS OPN (hd z) = true from h2)]
        walk_at "rd"
        refine ⟨_, _, _, rfl, SqL.of hp2, fun H3 S3 => ?_⟩
        rw [← e]
        exact k _ (same_trans S2 S3)
      · have n2 : ¬ inS OPN (hd z) = true := h2
        walk_at "rd"
        obtain ⟨r, hr1, hr2⟩ := D.kn (hd z)
        refine ⟨_, r, rfl, rfl, hr1, ?_⟩
        walk_at "rd"
        refine ite2 (fun h3 => ?_) (fun h3 => ?_)
        · obtain ⟨m, hm⟩ : ∃ m, mid (hd z) = some m := by
            rw [hr2] at h3
            exact Option.isSome_iff_exists.mp h3
          have e : isW z ps = (ps.isEmpty || !lastIs ps m) := by unfold isW; rw [if_neg n1, if_neg n2, hm]
          rw [e] at k
          walk_at "rd"
          refine ⟨_, .inl ⟨_, SqL.of hp2, rfl⟩, _, rfl, ?_⟩
          rw [emp_map]
          cases he : ps.isEmpty with
          | true =>
            have := k _ S2
            rw [he] at this
            exact this
          | false =>
            obtain ⟨x, hx⟩ := last_of he
            rw [if_neg (by decide)]
            walk_at "rd"
            refine ⟨p, _, _, _, rfl, rfl, SqL.of hp2, at_last (by rw [last_map, hx]; rfl), ?_⟩
            walk_at "rd"
            refine ⟨AM, _, _, rfl, rfl, D.kg _ _ hm, ?_⟩
            walk_at "rd"
            have := k _ S2
            rw [he, lastIs_some hx] at this
            exact this
        · have hm : mid (hd z) = none := by
            rw [hr2] at h3
            simpa using h3
          have e : isW z ps = (if hd z = "end" then ps.isEmpty || lastIs ps "try" else if hd z = "return" then inS ps "finally" || inS ps "rescue" else inS ["drain", "close"] (hd z) && stW (hd z) ps) := by unfold isW; rw [if_neg n1, if_neg n2, hm]
          walk_at "rd"
          refine ite2 (fun h4 => ?_) (fun h4 => ?_)
          · have e4 := eqS h4
            rw [e, if_pos e4] at k
            walk_at "rd"
            refine ⟨_, .inl ⟨_, SqL.of hp2, rfl⟩, _, rfl, ?_⟩
            rw [emp_map]
            cases he : ps.isEmpty with
            | true =>
              have := k _ S2
              rw [he] at this
              exact this
            | false =>
              obtain ⟨x, hx⟩ := last_of he
              rw [if_neg (by decide)]
              walk_at "rd"
              refine ⟨p, _, _, _, rfl, rfl, SqL.of hp2, at_last (by rw [last_map, hx]; rfl), ?_⟩
              walk_at "rd"
              have := k _ S2
              rw [he, lastIs_some hx] at this
              exact this
          · rw [e, if_neg (neS h4)] at k
            walk_at "rd"
            refine ite2 (fun h5 => ?_) (fun h5 => ?_)
            · rw [if_pos (eqS h5)] at k
              walk_at "rd"
              refine ⟨p, _, rfl, .inl (SqL.of hp2), rfl, flatS _, ?_⟩
              walk_at "rd"
              refine ite2 (fun h6 => ?_) (fun h6 => ?_)
              · have := k _ S2
                rw [show inS ps "finally" = true from h6] at this
                exact this
              · walk_at "rd"
                refine ⟨p, _, rfl, .inl (SqL.of hp2), rfl, flatS _, ?_⟩
                have := k _ S2
                rw [show inS ps "finally" = false from not_tt h6] at this
                exact this
            · rw [if_neg (neS h5)] at k
              walk_at "rd"
              refine ⟨by show 2 ≤ sizeLine; decide, fun q3 hq3 => ?_⟩
              have S3 := same_new (o := .tup ((["drain", "close"] : List Str).map V.str)) S2 hq3
              refine ⟨q3, _, rfl, .inr (SqT.of upd_same), rfl, flatS ["drain", "close"], ?_⟩
              walk_at "rd"
              refine ite2 (fun h6 => ?_) (fun h6 => ?_)
              · walk_at "rd"
                refine ⟨_, _, _, rfl, SqL.of (S3 _ _ hp), fun H4 S4 => ?_⟩
                have := k _ (same_trans S3 S4)
                rw [show inS ["drain", "close"] (hd z) = true from h6] at this
                exact this
              · have := k _ S3
                rw [show inS ["drain", "close"] (hd z) = false from not_tt h6] at this
                exact this
end
end Ow

set_option Elab.async false
set_option linter.all false
set_option maxRecDepth 100000
set_option maxHeartbeats 1000000
namespace Fn
open PySem PySem.Spec PyProof.Rows L2 Ow ErX
theorem walk_enumT {K : PySem.W.Frag} {a : Addr} {xs : List V} : Walk (EnT.Ite K a) xs.length (fun H => SqT K H a xs) (YPair (fun i => some (.int (i : Nat))) (fun i => xs[i]?)) := by
  refine ⟨fun i _ hi q => ⟨xs, xs[i], q, by simp [hi]⟩, fun _ q => ⟨xs, q, Nat.le_refl _⟩, fun i H v H' _ q y => ?_⟩
  obtain ⟨T, x, h1, h2, h3, h4⟩ := y
  exact ⟨T, .int (i : Nat), x, h1, h2, h3, rfl, h4 xs q⟩
theorem sqT_same {K : PySem.W.Frag} {H H' : Hp} {a : Addr} {xs : List V} (h : SqT K H a xs) (s : Same H H') : SqT K H' a xs := by
  rcases h with h | h
  · rcases h with h | ⟨o, h⟩
    · exact .inl (.inl (s _ _ h))
    · exact .inl (.inr ⟨o, s _ _ h⟩)
  · exact .inr h
theorem sqL_same {K : PySem.W.Frag} {H H' : Hp} {a : Addr} {xs : List V} (h : SqL K H a xs) (s : Same H H') : SqL K H' a xs := by
  rcases h with h | h
  · rcases h with h | ⟨o, h⟩
    · exact .inl (.inl (s _ _ h))
    · exact .inl (.inr ⟨o, s _ _ h⟩)
  · exact .inr h
theorem st_succ {rs : List Str} {i : Nat} {r : Str} (h : rs[i]? = some r) : stAt rs (i + 1) = step i r (stAt rs i) := by
  show (match rs[i]? with | some r => step i r (stAt rs i) | none => stAt rs i) = _
  rw [h]
theorem step_len (i : Nat) (r : Str) (bs : Bl) : (step i r bs).length ≤ bs.length + 1 := by
  unfold step
  split
  · rw [List.length_append]; simp
  · split
    · rw [List.length_append, List.length_dropLast]
      cases bs.getLast? <;> simp <;> omega
    · split
      · rw [List.length_dropLast]; omega
      · omega
theorem st_len (rs : List Str) : ∀ i, (stAt rs i).length ≤ i
  | 0 => Nat.le_refl _
  | i + 1 => by
    have ih := st_len rs i
    show (match rs[i]? with | some r => step i r (stAt rs i) | none => stAt rs i).length ≤ _
    cases rs[i]? with
    | none => exact Nat.le_succ_of_le ih
    | some r =>
      have := step_len i r (stAt rs i)
      show (step i r (stAt rs i)).length ≤ _
      omega
theorem bk_len (rs : List Str) : ∀ i, (bkAt rs i).length = i
  | 0 => rfl
  | i + 1 => by
    show (bkAt rs i ++ _).length = _
    rw [List.length_append, bk_len rs i]
    rfl
def fsV (bs : Bl) : List V := (fs bs).map fun n => V.int (n : Nat)
def snV (bs : Bl) : List V := (sn bs).map V.str
theorem fsV_len (bs : Bl) : (fsV bs).length = bs.length := by unfold fsV fs; simp
theorem snV_len (bs : Bl) : (snV bs).length = bs.length := by unfold snV sn; simp
theorem open_fs {i : Nat} {r : Str} {bs : Bl} (h : inS OPN (hd r) = true) : fsV (step i r bs) = fsV bs ++ [.int (i : Nat)] ∧ snV (step i r bs) = snV bs ++ [.str (hd r)] := by
  unfold step fsV snV fs sn
  rw [if_pos h]
  simp
theorem mid_fs {i : Nat} {r : Str} {bs : Bl} {b : Nat × Str} (h : ¬ inS OPN (hd r) = true) (hm : (mid (hd r)).isSome = true) (hb : bs.getLast? = some b) : fsV (step i r bs) = fsV bs ∧ snV (step i r bs) = (snV bs).set ((snV bs).length - 1) (.str (hd r)) := by
  obtain ⟨l, rfl⟩ := List.getLast?_eq_some_iff.mp hb
  unfold step fsV snV fs sn
  rw [if_neg h, if_pos hm]
  simp [List.set_append]
theorem end_fs {i : Nat} {r : Str} {bs : Bl} (h : ¬ inS OPN (hd r) = true) (hm : ¬ (mid (hd r)).isSome = true) (he : hd r = "end") : fsV (step i r bs) = (fsV bs).dropLast ∧ snV (step i r bs) = (snV bs).dropLast := by
  unfold step fsV snV fs sn
  rw [if_neg h, if_neg hm, if_pos he]
  simp
theorem same_fs {i : Nat} {r : Str} {bs : Bl} (h : ¬ inS OPN (hd r) = true) (hm : ¬ (mid (hd r)).isSome = true) (he : ¬ hd r = "end") : step i r bs = bs := by
  unfold step
  rw [if_neg h, if_neg hm, if_neg he]
theorem sn_last {bs : Bl} (h : (sn bs).isEmpty = false) : ∃ b, bs.getLast? = some b := by
  cases e : bs.getLast? with
  | none => rw [List.getLast?_eq_none_iff] at e; rw [e] at h; cases h
  | some x => exact ⟨x, rfl⟩
theorem nw_mid {r : Str} {ps : List Str} (h : isW r ps = false) (ho : ¬ inS OPN (hd r) = true) (hm : (mid (hd r)).isSome = true) : ps.isEmpty = false := by
  obtain ⟨m, e⟩ := Option.isSome_iff_exists.mp hm
  unfold isW at h
  rw [if_neg ho, e] at h
  by_cases hw : wr r = false
  · rw [if_pos hw] at h; cases h
  · rw [if_neg hw] at h
    simp only [Bool.or_eq_false_iff] at h
    exact h.1
theorem nw_end {r : Str} {ps : List Str} (h : isW r ps = false) (ho : ¬ inS OPN (hd r) = true) (hm : ¬ (mid (hd r)).isSome = true) (he : hd r = "end") : ps.isEmpty = false := by
  have e : mid (hd r) = none := by simpa using hm
  unfold isW at h
  rw [if_neg ho, e] at h
  by_cases hw : wr r = false
  · rw [if_pos hw] at h; cases h
  · rw [if_neg hw] at h
    simp only [if_pos he, Bool.or_eq_false_iff] at h
    exact h.1
theorem last_at {bs : Bl} {b : Nat × Str} (h : bs.getLast? = some b) : (fsV bs).getLast? = some (.int (b.1 : Nat)) ∧ (snV bs).getLast? = some (.str b.2) := by
  unfold fsV snV fs sn
  rw [List.getLast?_map, List.getLast?_map, List.getLast?_map, List.getLast?_map, h]
  exact ⟨rfl, rfl⟩
theorem getLast_ix {xs : List V} {v : V} (h : xs.getLast? = some v) : xs[xs.length - 1]? = some v := by rw [← List.getLast?_eq_getElem?]; exact h
theorem ixN_last {n : Nat} (h : 0 < n) : ixN n (-1) = some (n - 1) := by
  unfold ixN
  rw [if_neg (by decide), if_pos (by omega)]
  congr 1
  omega
def spBlocks (K : PySem.W.Frag) (CB : Addr) : Sp := fun vs H Q E => ∃ (p : Addr) (rs : List Str), vs = [.ref p] ∧ SqT K H p (rs.map V.str) ∧ rs.length ≤ 64 ∧ (∀ r ∈ rs, Row r) ∧
  (Good rs → ∀ b H', H b = none → H' b = some (.lst (bkAt rs rs.length)) → Same H H' → Q (.ref b) H') ∧
  (∀ n, Bad rs n → ∀ d H', H d = none → H' d = some (.xd [("row", .int (n : Nat))]) → Same H H' → E (.ref CB) (some d) H')
end Fn

set_option Elab.async false
set_option linter.all false
set_option maxRecDepth 100000
set_option maxHeartbeats 4000000
namespace Ow
open PySem PySem.Spec PyProof.Rows L2 Fn ErX
local macro_rules | `(tactic| walk_at "rd") => `(tactic| repeat (first | (refine ⟨_, rfl, ?_⟩) | (refine ⟨_, _, rfl, rfl, ?_⟩) | (refine ⟨rfl, ?_⟩) | (refine ⟨_, _, rfl, ?_⟩) | (refine Or.inl ⟨_, rfl, ?_⟩) | (refine ⟨(by first | (show (0 : Int) < (_ : Int); decide) | exact Or.inl ⟨by decide, by decide⟩ | exact Or.inr ⟨by decide, by decide⟩ | exact ⟨by decide, by decide⟩ | exact ⟨by decide, by decide, by decide⟩), ?_⟩)))
local macro_rules | `(tactic| walk_at "at") => `(tactic| first | assumption | exact upd_same | exact at_new (by assumption) | (refine at_same (by assumption) ?_; walk_at "at") | (refine at_old (by assumption) ?_ ?_; (focus walk_at "ne"); walk_at "at") | (refine at_upd ?_ ?_; (focus walk_at "ne"); walk_at "at") | (refine at_stay (by assumption) ?_ ?_; (focus walk_at "ne"); walk_at "at"))
local macro_rules | `(tactic| walk_at "ex") => `(tactic| first | exact ⟨_, by assumption⟩ | exact ⟨_, upd_same⟩ | exact ⟨_, at_new (by assumption)⟩ | (refine ex_same (by assumption) ?_; walk_at "ex") | (refine ex_old (by assumption) ?_; walk_at "ex") | (refine ex_upd ?_; walk_at "ex") | (refine ex_stay (by assumption) ?_ ?_; (focus walk_at "ne"); walk_at "ex"))
local macro_rules | `(tactic| walk_at "ne") => `(tactic| first | assumption | (refine Ne.symm ?_; assumption) | (refine ne_fx (by assumption) ?_; walk_at "ex") | (refine Ne.symm (ne_fx (by assumption) ?_); walk_at "ex") | (refine ne_kx (by assumption) ?_; (apply Exists.intro; refine And.intro ?_ ?_; (focus walk_at "at"); (intro z; cases z))) | (refine Ne.symm (ne_kx (by assumption) ?_); (apply Exists.intro; refine And.intro ?_ ?_; (focus walk_at "at"); (intro z; cases z))))
section
variable {P : Program} {w : World} {K : PySem.W.Frag} {mg : Str → Option Value} {base : Heap} {AO AP AS AT AM CB CT : Addr} {es : Array DictEntry} {en : Nat}
abbrev s_blocks_of : Stmt := top 25
theorem sc_blocks_of : FnScope ["rows", "blocks", "opened", "parts", "at", "row", "word"] ["rows"] (defScope s_blocks_of) := ⟨rfl, rfl, rfl, by decide +kernel, rfl, by decide +kernel, by decide +kernel⟩
theorem ok_blocks {f : Addr} {fd : FuncData} (F : Fun K "_blocks_of" "_blocks_of" s_blocks_of f fd) (T : Txt mg) (D : FnD K w mg AO AP AS AT AM es en) (EB : ErMk P w K mg base 2 "BadFunction" CB "row") (c_isw : Cal P w K mg base "_is_wrong" 3 (spIsW K)) : FnOk P w K mg base (L2.CX P w) 4 f fd ["rows"] (spBlocks K CB) := by
  refine F.okX sc_blocks_of (fun vs H Q E h => ?_) (fun cdv A outer s H vs Q E hr h => ?_)
  · obtain ⟨p, rs, rfl, _⟩ := h
    rfl
  · obtain ⟨p, rs, rfl, hp, hlen, hrow, k, kx⟩ := h
    have hu := hu_of hr
    refine ⟨_, (pss_cons (ps_set (i := 1) sc_blocks_of.nd rfl (Or.inl rfl) (pe_lst pa_nil))
      (pss_cons (ps_set (i := 2) sc_blocks_of.nd rfl (Or.inl rfl) (pe_lst pa_nil))
      (pss_cons (ps_set (i := 3) sc_blocks_of.nd rfl (Or.inl rfl) (pe_lst pa_nil))
      (pss_cons (ps_for (passes_of rfl) rfl (EnT.pi_enumT (by rfl) T.n_enumerate (pa_cons (pv 0) pa_nil)) (pg_tup rfl (pgs_cons (pg_name (i := 4) sc_blocks_of.nd rfl (Or.inl rfl)) (pgs_cons (pg_name (i := 5) sc_blocks_of.nd rfl (Or.inl rfl)) pgs_nil)))
      (pss_cons (ps_if (pt_val (pe_cal c_isw (hr.mono (by decide)) (pa_cons (pv 5) (pa_cons (pv 3) pa_nil)))) (pss_one (ps_raise rfl (takes_of rfl rfl rfl rfl) (pmk_er EB (hr.mono (by decide)) (pa_cons (pv 4) pa_nil)))) pss_nil)
      (pss_cons (ps_expr (pe_bm PySem.F.plainAttrs_list PySem.F.slot_list_append PySem.F.type_list_append mt_append (pv 1) (pa_cons (pe_ifExp (pt_truth (pv 2) (by intro _; rfl)) (pe_ix ix_list (pv 2) (pe_un un_neg pe_int) (fun _ _ => rfl)) pe_non) pa_nil)))
      (pss_cons (ps_set (i := 6) sc_blocks_of.nd rfl (Or.inl rfl) (pe_ix ix_list (pe_split (pv 5) pe_str) pe_int (fun _ _ => rfl)))
      (pss_one (ps_if (pt_cmpR op_in_seq (pv 6) (pe_glob (v := .ref AO) rfl D.gO rfl) rfl) (pss_cons (ps_expr (pe_bm PySem.F.plainAttrs_list PySem.F.slot_list_append PySem.F.type_list_append mt_append (pv 2) (pa_cons (pv 4) pa_nil)))
      (pss_one (ps_expr (pe_bm PySem.F.plainAttrs_list PySem.F.slot_list_append PySem.F.type_list_append mt_append (pv 3) (pa_cons (pv 6) pa_nil))))) (pss_one (ps_if (pt_cmpR (op_in_kd D.kd) (pv 6) (pe_glob (v := .ref AM) rfl D.gM rfl) rfl) (pss_one (ps_asg (pv 6) (pg_sub (pv 3) (pe_un un_neg pe_int) set_list))) (pss_one (ps_if (pt_cmpR op_eq (pv 6) pe_str (nomark _)) (pss_cons (ps_expr (pe_bm0 PySem.F.plainAttrs_list PySem.F.slot_list_pop PySem.F.type_list_pop mt_pop (pv 2)))
      (pss_one (ps_expr (pe_bm0 PySem.F.plainAttrs_list PySem.F.slot_list_pop PySem.F.type_list_pop mt_pop (pv 3))))) pss_nil))))))))))
      (pss_cons (ps_if (pt_truth (pv 2) (by intro _; rfl)) (pss_one (ps_raise rfl (takes_of rfl rfl rfl rfl) (pmk_er EB (hr.mono (by decide)) (pa_cons (pe_callB call_len_seq (by rfl) T.n_len (by decide +kernel) (pa_cons (pv 0) pa_nil)) pa_nil)))) pss_nil)
      (pss_one (ps_ret (pv 1)))))))), ?_⟩
    walk_at "rd"
    refine ⟨by show 0 ≤ sizeLine; decide, fun b hb => ?_⟩
    walk_at "rd"
    refine ⟨by show 0 ≤ sizeLine; decide, fun o ho => ?_⟩
    walk_at "rd"
    refine ⟨by show 0 ≤ sizeLine; decide, fun q hq => ?_⟩
    have ob : o ≠ b := fun z => by rw [z, upd_same] at ho; cases ho
    have qo : q ≠ o := fun z => by rw [z, upd_same] at hq; cases hq
    have qb : q ≠ b := fun z => by rw [z, upd_ne ob.symm, upd_same] at hq; cases hq
    have ho0 : H o = none := by rw [upd_ne ob] at ho; exact ho
    have hq0 : H q = none := by rw [upd_ne qo, upd_ne qb] at hq; exact hq
    have e1 : (upd (upd (upd H b (.lst [])) o (.lst [])) q (.lst [])) q = some (.lst []) := upd_same
    have e2 : (upd (upd (upd H b (.lst [])) o (.lst [])) q (.lst [])) o = some (.lst []) := (upd_ne qo.symm).trans upd_same
    have e3 : (upd (upd (upd H b (.lst [])) o (.lst [])) q (.lst [])) b = some (.lst []) := (upd_ne qb.symm).trans ((upd_ne ob.symm).trans upd_same)
    have S0 : Same H (upd (upd (upd H b (.lst [])) o (.lst [])) q (.lst [])) := same_over (same_over (same_new (fun _ _ e => e) hb) ho0) hq0
    generalize (upd (upd (upd H b (.lst [])) o (.lst [])) q (.lst [])) = H0 at e1 e2 e3 S0
    clear ho hq
    walk_at "rd"
    refine ⟨p, _, rfl, sqT_same hp S0, ?_⟩
    refine for_it (walk_enumT (xs := rs.map V.str)) (fun i σ H' => (∃ o4 o5 o6 : Option V, σ = [some (.ref p), some (.ref b), some (.ref o), some (.ref q), o4, o5, o6]) ∧ H' b = some (.lst (bkAt rs i)) ∧ H' o = some (.lst (fsV (stAt rs i))) ∧ H' q = some (.lst (snV (stAt rs i))) ∧ (∀ j, j < i → ¬ NotOk rs j) ∧ Same H H') ?_ ?_ ?_ ?_
    · exact ⟨⟨none, none, none, rfl⟩, e3, e2, e1, fun j h => absurd h (Nat.not_lt_zero j), S0⟩
    · rintro i σ H1 _ ⟨_, _, _, _, _, s⟩
      exact sqT_same hp s
    · rintro i v σ H1 H2 hi ⟨⟨o4, o5, o6, rfl⟩, f1, f2, f3, nw, S1⟩ ⟨t, x, y, rfl, ht, rfl, hx, hy⟩
      cases hx
      rw [List.length_map] at hi
      have hri : rs[i]? = some rs[i] := List.getElem?_eq_getElem hi
      generalize rs[i] = r at hri
      have hy : (rs.map V.str)[i]? = some y := hy
      rw [List.getElem?_map, hri] at hy
      cases hy
      have hR := hrow r (List.mem_of_getElem? hri)
      have S2 := same_new (o := .tup [.int (i : Nat), .str r]) S1 ht
      have g1 := (upd_ne (o := .tup [.int (i : Nat), .str r]) (ne_of_none f1 ht)).trans f1
      have g2 := (upd_ne (o := .tup [.int (i : Nat), .str r]) (ne_of_none f2 ht)).trans f2
      have g3 := (upd_ne (o := .tup [.int (i : Nat), .str r]) (ne_of_none f3 ht)).trans f3
      have htt : upd H1 t (.tup [.int (i : Nat), .str r]) t = some (.tup [.int (i : Nat), .str r]) := upd_same
      generalize upd H1 t (.tup [.int (i : Nat), .str r]) = H2 at S2 g1 g2 g3 htt
      clear ht f1 f2 f3
      refine ⟨t, _, rfl, SqT.of htt, rfl, ?_⟩
      walk_at "rd"
      refine ⟨_, _, _, rfl, hR, g3, fun H3 S3 => ?_⟩
      have SS := same_trans S2 S3
      have g1 := S3 _ _ g1
      have g2 := S3 _ _ g2
      have g3 := S3 _ _ g3
      walk_at "rd"
      refine ite2 (fun hw => ?_) (fun hw => ?_)
      · refine ⟨_, rfl, (by show 1 ≤ 1000; decide), fun a ha => er_go (.inr ⟨_, rfl, by omega, by omega⟩) ha fun d' H9 h1 h2 h3 => kx i ⟨nw, .inl ⟨r, hri, hw⟩⟩ d' H9 (none_back SS h1) h2 (same_trans SS h3)⟩
      · have hw := not_tt hw
        have S4 := SS
        clear S2 S3 htt SS
        have nw' : ∀ j, j < i + 1 → ¬ NotOk rs j := fun j hj => by
          by_cases z : j = i
          · subst z
            rintro ⟨r', h1, h2⟩
            rw [hri] at h1
            cases h1
            rw [hw] at h2
            cases h2
          · exact nw j (by omega)
        rw [show ∀ (D : Ends) (σ : L2.St) (H : Hp), tNext D σ H = D.nx σ H from fun _ _ _ => rfl]
        dsimp only
        refine seq_cut (fun H4 => H4 b = some (.lst (bkAt rs (i + 1))) ∧ H4 o = some (.lst (fsV (stAt rs i))) ∧ H4 q = some (.lst (snV (stAt rs i))) ∧ Same H H4) ?_ fun fin => ?_
        · rintro H4 ⟨k1, k2, k3, S5⟩
          walk_at "rd"
          refine ⟨⟨_, rfl⟩, ?_⟩
          refine ⟨_, _, rfl, rfl, rfl, hR.len, fun x hx => ?_⟩
          have xb : x ≠ b := fun z => by rw [z, k1] at hx; cases hx
          have xo : x ≠ o := fun z => by rw [z, k2] at hx; cases hx
          have xq : x ≠ q := fun z => by rw [z, k3] at hx; cases hx
          have S6 := same_new (o := .lst ((Txt.split r " ").map V.str)) S5 hx
          have hx2 : (upd H4 x (.lst ((Txt.split r " ").map V.str))) x = some (.lst ((Txt.split r " ").map V.str)) := upd_same
          have k1 := (upd_ne (o := .lst ((Txt.split r " ").map V.str)) xb.symm).trans k1
          have k2 := (upd_ne (o := .lst ((Txt.split r " ").map V.str)) xo.symm).trans k2
          have k3 := (upd_ne (o := .lst ((Txt.split r " ").map V.str)) xq.symm).trans k3
          generalize upd H4 x (.lst ((Txt.split r " ").map V.str)) = H5 at S6 hx2 k1 k2 k3
          clear hx S5
          walk_at "rd"
          refine ⟨x, _, _, _, rfl, rfl, SqL.of hx2, hd_at hR.ne, ?_⟩
          walk_at "rd"
          refine ⟨AO, _, rfl, .inr (D.sO _), rfl, flatS _, ?_⟩
          walk_at "rd"
          have hll : (fsV (stAt rs i)).length < sizeLine := by rw [fsV_len]; exact Nat.lt_of_lt_of_le (m := 65) (by have := st_len rs i; omega) (by decide)
          have hll2 : (snV (stAt rs i)).length < sizeLine := by rw [snV_len]; exact Nat.lt_of_lt_of_le (m := 65) (by have := st_len rs i; omega) (by decide)
          refine ite2 (fun m1 => ?_) (fun m1 => ?_)
          · have m1 : inS OPN (hd r) = true := m1
            obtain ⟨q1, q2⟩ := open_fs (i := i) (bs := stAt rs i) m1
            rw [← st_succ hri] at q1 q2
            walk_at "rd"
            refine ⟨.inl ⟨rfl, _, SqL.of k2⟩, ?_⟩
            walk_at "rd"
            refine ⟨o, _, _, rfl, rfl, k2, hll, ?_⟩
            walk_at "rd"
            have k3' := (upd_ne (o := .lst (fsV (stAt rs i) ++ [.int (i : Nat)])) qo).trans k3
            refine ⟨.inl ⟨rfl, _, SqL.of k3'⟩, ?_⟩
            walk_at "rd"
            refine ⟨q, _, _, rfl, rfl, k3', hll2, ?_⟩
            refine ⟨⟨_, _, _, rfl⟩, (upd_ne qb.symm).trans ((upd_ne ob.symm).trans k1), ?_, ?_, nw', same_over (same_over S6 ho0) hq0⟩
            · rw [q1]; exact (upd_ne qo.symm).trans upd_same
            · rw [q2]; exact upd_same
          · have m1 : ¬ inS OPN (hd r) = true := m1
            walk_at "rd"
            obtain ⟨rr, hr1, hr2⟩ := D.kn (hd r)
            refine ⟨_, rr, rfl, rfl, hr1, ?_⟩
            walk_at "rd"
            rw [hr2]
            refine ite2 (fun m2 => ?_) (fun m2 => ?_)
            · obtain ⟨c, hc⟩ := sn_last (nw_mid hw m1 m2)
              obtain ⟨q1, q2⟩ := mid_fs (i := i) m1 m2 hc
              rw [← st_succ hri] at q1 q2
              walk_at "rd"
              refine ⟨q, _, _, _, rfl, rfl, k3, ixN_last (by
                have := getLast_ix (last_at hc).2
                have := (List.getElem?_eq_some_iff.mp this).1
                omega), ?_⟩
              refine ⟨⟨_, _, _, rfl⟩, (upd_ne qb.symm).trans k1, ?_, ?_, nw', same_over S6 hq0⟩
              · rw [q1]; exact (upd_ne qo.symm).trans k2
              · rw [q2]; exact upd_same
            · walk_at "rd"
              refine ite2 (fun m3 => ?_) (fun m3 => ?_)
              · obtain ⟨c, hc⟩ := sn_last (nw_end hw m1 m2 (eqS m3))
                obtain ⟨q1, q2⟩ := end_fs (i := i) (bs := stAt rs i) m1 m2 (eqS m3)
                rw [← st_succ hri] at q1 q2
                walk_at "rd"
                refine ⟨.inl ⟨rfl, _, SqL.of k2⟩, ?_⟩
                refine ⟨o, _, _, rfl, rfl, k2, getLast_ix (last_at hc).1, ?_⟩
                walk_at "rd"
                have k3' := (upd_ne (o := .lst (fsV (stAt rs i)).dropLast) qo).trans k3
                refine ⟨.inl ⟨rfl, _, SqL.of k3'⟩, ?_⟩
                refine ⟨q, _, _, rfl, rfl, k3', getLast_ix (last_at hc).2, ?_⟩
                refine ⟨⟨_, _, _, rfl⟩, (upd_ne qb.symm).trans ((upd_ne ob.symm).trans k1), ?_, ?_, nw', same_over (same_over S6 ho0) hq0⟩
                · rw [q1]; exact (upd_ne qo.symm).trans upd_same
                · rw [q2]; exact upd_same
              · have e := same_fs (i := i) (bs := stAt rs i) m1 m2 (neS m3)
                rw [← st_succ hri] at e
                refine ⟨⟨_, _, _, rfl⟩, k1, ?_, ?_, nw', S6⟩
                · rw [e]; exact k2
                · rw [e]; exact k3
        · walk_at "rd"
          refine ⟨.inl ⟨rfl, _, SqL.of g1⟩, ?_⟩
          walk_at "rd"
          refine ⟨_, .inl ⟨_, SqL.of g2, rfl⟩, ?_⟩
          have hl : (bkAt rs i).length < sizeLine := by rw [bk_len]; exact Nat.lt_of_lt_of_le (m := 65) (by omega) (by decide)
          have fin2 : ∀ v, (match (stAt rs i).getLast? with | some b => V.int (b.1 : Nat) | none => .non) = v → bkAt rs (i + 1) = bkAt rs i ++ [v] := fun v e => by rw [← e]; rfl
          have h4 : ∀ v, (match (stAt rs i).getLast? with | some b => V.int (b.1 : Nat) | none => .non) = v → (upd H3 b (.lst (bkAt rs i ++ [v]))) b = some (.lst (bkAt rs (i + 1))) ∧ (upd H3 b (.lst (bkAt rs i ++ [v]))) o = some (.lst (fsV (stAt rs i))) ∧ (upd H3 b (.lst (bkAt rs i ++ [v]))) q = some (.lst (snV (stAt rs i))) ∧ Same H (upd H3 b (.lst (bkAt rs i ++ [v]))) := fun v e => by
            rw [fin2 v e]
            exact ⟨upd_same, (upd_ne ob).trans g2, (upd_ne qb).trans g3, same_over S4 hb⟩
          refine ite2 (fun hz => ?_) (fun hz => ?_)
          · obtain ⟨l, hl2⟩ : ∃ l, (stAt rs i).getLast? = some l := by
              cases e : (stAt rs i).getLast? with
              | some l => exact ⟨l, rfl⟩
              | none =>
                rw [List.getLast?_eq_none_iff] at e
                rw [e] at hz
                exact absurd hz (by decide)
            walk_at "rd"
            refine ⟨o, _, _, _, rfl, rfl, SqL.of g2, at_last (last_at hl2).1, ?_⟩
            refine ⟨b, _, _, rfl, rfl, g1, hl, ?_⟩
            exact fin _ (h4 _ (by rw [hl2]))
          · have e : stAt rs i = [] := by
              cases e : stAt rs i with
              | nil => rfl
              | cons c l => rw [e] at hz; exact absurd rfl hz
            refine ⟨b, _, _, rfl, rfl, g1, hl, ?_⟩
            exact fin _ (h4 _ (by rw [e]; rfl))
    · rintro σ H1 ⟨⟨o4, o5, o6, rfl⟩, f1, f2, f3, nw, S1⟩
      rw [List.length_map] at nw f1 f2 f3
      walk_at "rd"
      refine ⟨_, .inl ⟨_, SqL.of f2, rfl⟩, ?_⟩
      refine ite2 (fun hz => ?_) (fun hz => ?_)
      · walk_at "rd"
        refine ⟨p, _, rfl, .inr (sqT_same hp S1), ?_⟩
        walk_at "rd"
        refine ⟨(by show 1 ≤ 1000; decide), fun a ha => er_go (.inr ⟨_, rfl, by omega, by rw [List.length_map]; omega⟩) ha fun d' H9 h1 h2 h3 => kx rs.length ⟨nw, .inr ⟨rfl, fun e => by rw [e] at hz; exact absurd hz (by decide)⟩⟩ d' H9 (none_back S1 h1) (by rw [h2, List.length_map]) (same_trans S1 h3)⟩
      · walk_at "rd"
        refine k ⟨nw, ?_⟩ b H1 hb f1 S1
        cases e : stAt rs rs.length with
        | nil => rfl
        | cons c l => rw [e] at hz; exact absurd rfl hz
end
end Ow

set_option Elab.async false
set_option linter.all false
set_option maxRecDepth 100000
set_option maxHeartbeats 1000000
namespace Fn
open PySem PySem.Spec PyProof.Rows L2 Ow ErX
/-- a row as it is given -/
structure Raw (r : Str) : Prop where
  len : r.length + 2 ≤ sizeLine
  sum : ((wds r).map (·.length)).sum + (wds r).length * (" " : Str).length ≤ 16777216
  row : Row (spc r)
  two : Txt.startswith (spc r) "each " = true → ((Txt.split (spc r) " ").map V.str)[1]? = some (.str (sec (spc r)))
def secs (rs : List Str) : List Str := (rs.filter fun r => Txt.startswith r "each ").map sec
def Lists (rs ys : List Str) : Prop := sortedS ys = true ∧ ys.Nodup ∧ ∀ z, z ∈ ys ↔ z ∈ secs rs
def rowsOf (t : Str) : List Str := (Txt.split t "\n").map spc
def spSpaced : Sp := fun vs H Q _ => ∃ r : Str, vs = [.str r] ∧ Raw r ∧ ∀ H', Same H H' → Q (.str (spc r)) H'
/-- a function at p -/
def FnIn (C : Addr) (H : Hp) (p : Addr) (rs ys : List Str) (dx : Addr) : Prop := ∃ a b c, H p = some (.ins C dx [("rows", .ref a), ("_blocks", .ref b), ("lists", .ref c)]) ∧ H a = some (.tup (rs.map V.str)) ∧ H b = some (.lst (bkAt rs rs.length)) ∧ H c = some (.tup (ys.map V.str))
def spFInit (C CB CT : Addr) : Sp := fun vs H Q E => ∃ (x dx : Addr) (t : Str), vs = [.ref x, .str t] ∧ H x = some (.ins C dx []) ∧ t.length + 2 ≤ sizeLine ∧ (∀ r ∈ Txt.split t "\n", Raw r) ∧
  (24 < (rowsOf t).length → ∀ d' H', H d' = none → H' d' = some (.xd [("what", .str "rows")]) → Stay x H H' → E (.ref CT) (some d') H') ∧
  ((rowsOf t).length ≤ 24 → ∀ n, Bad (rowsOf t) n → ∀ d' H', H d' = none → H' d' = some (.xd [("row", .int (n : Nat))]) → Stay x H H' → E (.ref CB) (some d') H') ∧
  ((rowsOf t).length ≤ 24 → Good (rowsOf t) → ∀ ys, Lists (rowsOf t) ys → 3 < ys.length → ∀ d' H', H d' = none → H' d' = some (.xd [("what", .str "lists")]) → Stay x H H' → E (.ref CT) (some d') H') ∧
  ((rowsOf t).length ≤ 24 → Good (rowsOf t) → ∀ ys, Lists (rowsOf t) ys → ys.length ≤ 3 → ∀ H', FnIn C H' x (rowsOf t) ys dx → Stay x H H' → Q .non H')
/-- what the class says of a function's fields -/
structure FnK (K : PySem.W.Frag) (C : Addr) : Prop where
  cl : Cls K C
  n1 : NoAttr K C "rows"
  n2 : NoAttr K C "_blocks"
  n3 : NoAttr K C "lists"
theorem ix_listK {X : Cx} {K : PySem.W.Frag} (hK : X.K = K) : IxR X (rIxL K) := by
  subst hK
  exact ix_list
theorem addS {xs : List Str} (hn : xs.Nodup) (s : Str) : ∃ xs' : List Str, GsX.addL (xs.map Sum.inr) (Sum.inr s) = xs'.map Sum.inr ∧ xs'.Nodup ∧ xs'.length ≤ xs.length + 1 ∧ ∀ z, z ∈ xs' ↔ z ∈ xs ∨ z = s := by
  by_cases h : s ∈ xs
  · refine ⟨xs, GsX.addL_in (List.mem_map.mpr ⟨s, h, rfl⟩), hn, Nat.le_succ _, fun z => ⟨.inl, fun e => ?_⟩⟩
    rcases e with e | e
    · exact e
    · rw [e]; exact h
  · refine ⟨s :: xs, GsX.addL_new (fun m => ?_), List.nodup_cons.mpr ⟨h, hn⟩, Nat.le_refl _, fun z => ?_⟩
    · obtain ⟨y, hy, e⟩ := List.mem_map.mp m
      cases e
      exact h hy
    · rw [List.mem_cons]
      exact Or.comm
theorem secs_t {rs : List Str} {i : Nat} {r : Str} (h : rs[i]? = some r) (hs : Txt.startswith r "each " = true) : secs (rs.take (i + 1)) = secs (rs.take i) ++ [sec r] := by
  unfold secs
  rw [List.take_succ, h, List.filter_append, List.map_append]
  simp [hs]
theorem secs_f {rs : List Str} {i : Nat} {r : Str} (h : rs[i]? = some r) (hs : ¬ Txt.startswith r "each " = true) : secs (rs.take (i + 1)) = secs (rs.take i) := by
  unfold secs
  rw [List.take_succ, h, List.filter_append, List.map_append]
  simp [hs]
theorem sm_rows : Sm "rows" := ⟨by decide +kernel, by decide +kernel⟩
theorem sm_lists : Sm "lists" := ⟨by decide +kernel, by decide +kernel⟩
end Fn

set_option Elab.async false
set_option linter.all false
set_option maxRecDepth 100000
set_option maxHeartbeats 4000000
namespace Ow
open PySem PySem.Spec PyProof.Rows L2 Fn ErX
local macro_rules | `(tactic| walk_at "rd") => `(tactic| repeat (first | (refine ⟨_, rfl, ?_⟩) | (refine ⟨_, _, rfl, rfl, ?_⟩) | (refine ⟨rfl, ?_⟩) | (refine ⟨_, _, rfl, ?_⟩) | (refine Or.inl ⟨_, rfl, ?_⟩) | (refine ⟨(by first | (show (0 : Int) < (_ : Int); decide) | exact Or.inl ⟨by decide, by decide⟩ | exact Or.inr ⟨by decide, by decide⟩ | exact ⟨by decide, by decide⟩ | exact ⟨by decide, by decide, by decide⟩), ?_⟩)))
local macro_rules | `(tactic| walk_at "at") => `(tactic| first | assumption | exact upd_same | exact at_new (by assumption) | (refine at_same (by assumption) ?_; walk_at "at") | (refine at_old (by assumption) ?_ ?_; (focus walk_at "ne"); walk_at "at") | (refine at_upd ?_ ?_; (focus walk_at "ne"); walk_at "at") | (refine at_stay (by assumption) ?_ ?_; (focus walk_at "ne"); walk_at "at"))
local macro_rules | `(tactic| walk_at "ex") => `(tactic| first | exact ⟨_, by assumption⟩ | exact ⟨_, upd_same⟩ | exact ⟨_, at_new (by assumption)⟩ | (refine ex_same (by assumption) ?_; walk_at "ex") | (refine ex_old (by assumption) ?_; walk_at "ex") | (refine ex_upd ?_; walk_at "ex") | (refine ex_stay (by assumption) ?_ ?_; (focus walk_at "ne"); walk_at "ex"))
local macro_rules | `(tactic| walk_at "ne") => `(tactic| first | assumption | (refine Ne.symm ?_; assumption) | (refine ne_fx (by assumption) ?_; walk_at "ex") | (refine Ne.symm (ne_fx (by assumption) ?_); walk_at "ex") | (refine ne_kx (by assumption) ?_; (apply Exists.intro; refine And.intro ?_ ?_; (focus walk_at "at"); (intro z; cases z))) | (refine Ne.symm (ne_kx (by assumption) ?_); (apply Exists.intro; refine And.intro ?_ ?_; (focus walk_at "at"); (intro z; cases z))))
section
variable {P : Program} {w : World} {K : PySem.W.Frag} {mg : Str → Option Value} {base : Heap} {C AO AP AS AT AM CB CT : Addr} {es : Array DictEntry} {en : Nat}
abbrev s_spaced : Stmt := top 26
theorem sc_spaced : FnScope ["row", "word"] ["row"] (defScope s_spaced) := ⟨rfl, rfl, rfl, by decide +kernel, rfl, by decide +kernel, by decide +kernel⟩
theorem ok_spaced {f : Addr} {fd : FuncData} (F : Fun K "_spaced" "_spaced" s_spaced f fd) (T : Txt mg) : FnOk P w K mg base CX0 1 f fd ["row"] spSpaced := by
  refine F.ok sc_spaced (fun vs H Q E h => ?_) (fun cdv A outer s H vs Q E hr h => ?_)
  · obtain ⟨r, rfl, _⟩ := h
    rfl
  · obtain ⟨r, rfl, hR, k⟩ := h
    have hu := hu_of hr
    refine ⟨_, (pss_one (ps_ret (pe_join pe_str (pe_lc (own := [("word", 1)]) (g := gName 1) (by rfl) sc_spaced.nd (pi_list (pe_split (pv 0) pe_str)) (blkOk_by (own := [("word", 1)]) (N := ["row", "word"]) (sc := defScope s_spaced) (by decide +kernel)) (fun _ _ _ _ _ => (pg_name (i := 1) sc_spaced.nd rfl (Or.inl rfl))) (fun _ _ _ _ _ => (pts_one (pt_cmpR op_ne (pv 1) pe_str (nomark _)))) (fun _ _ _ _ _ => (pv 1)))))), ?_⟩
    walk_at "rd"
    refine ⟨⟨_, rfl⟩, ?_⟩
    walk_at "rd"
    refine ⟨⟨_, rfl⟩, ?_⟩
    refine ⟨_, _, rfl, rfl, rfl, hR.len, fun q hq => ?_⟩
    have S1 := same_new (o := .lst ((Txt.split r " ").map V.str)) (fun a u (e : H a = some u) => e) hq
    have hq2 : (upd H q (.lst ((Txt.split r " ").map V.str))) q = some (.lst ((Txt.split r " ").map V.str)) := upd_same
    generalize upd H q (.lst ((Txt.split r " ").map V.str)) = H1 at S1 hq2
    clear hq
    have hll : (Txt.split r " ").length ≤ r.length + 2 := PyProof.Rows.split_le r " "
    refine ⟨q, rfl, ⟨_, SqL.of hq2⟩, fun D hD => lc_list (a := q) (xs := (Txt.split r " ").map V.str) (fun i H' => H' D = some (.lst ((((Txt.split r " ").take i).filter fun y => !decide (V.str y = V.str "")).map V.str)) ∧ Same H1 H') ⟨upd_same, same_new (fun _ _ e => e) hD⟩ (fun i H' _ h => SqL.of (h.2 _ _ hq2)) ?_ ?_⟩
    · rintro i x H' hi ⟨ha, S5⟩
      rw [List.getElem?_map] at hi
      obtain ⟨y, hy, rfl⟩ := Option.map_eq_some_iff.mp hi
      refine ⟨rfl, ?_⟩
      walk_at "rd"
      have et : (Txt.split r " ").take (i + 1) = (Txt.split r " ").take i ++ [y] := by rw [List.take_succ, hy]; rfl
      refine ite2 (fun h => ?_) (fun h => ?_)
      · walk_at "rd"
        refine ⟨_, ha, ?_, ?_, same_over S5 hD⟩
        · rw [List.length_map]
          have h1 := List.length_filter_le (fun y => !decide (V.str y = V.str "")) ((Txt.split r " ").take i)
          have h2 : i < (Txt.split r " ").length := (List.getElem?_eq_some_iff.mp hy).1
          rw [List.length_take] at h1
          have := hR.len
          omega
        · rw [upd_same, et, List.filter_append, List.map_append]
          simp only [List.filter_cons, h, List.filter_nil]
          rfl
      · refine ⟨?_, S5⟩
        rw [ha, et, List.filter_append, List.map_append]
        simp only [List.filter_cons, h, List.filter_nil]
        simp
    · rintro H' ⟨ha, S5⟩
      rw [List.length_map, List.take_length] at ha
      refine ⟨_, D, wds r, rfl, rfl, .inl (SqL.of ha), hR.sum, ?_⟩
      exact k _ (same_trans S1 S5)
end
end Ow

set_option Elab.async false
set_option linter.all false
set_option maxRecDepth 100000
set_option maxHeartbeats 4000000
namespace Ow
open PySem PySem.Spec PyProof.Rows L2 Fn ErX
local macro_rules | `(tactic| walk_at "rd") => `(tactic| repeat (first | (refine ⟨_, rfl, ?_⟩) | (refine ⟨_, _, rfl, rfl, ?_⟩) | (refine ⟨rfl, ?_⟩) | (refine ⟨_, _, rfl, ?_⟩) | (refine Or.inl ⟨_, rfl, ?_⟩) | (refine ⟨(by first | (show (0 : Int) < (_ : Int); decide) | exact Or.inl ⟨by decide, by decide⟩ | exact Or.inr ⟨by decide, by decide⟩ | exact ⟨by decide, by decide⟩ | exact ⟨by decide, by decide, by decide⟩), ?_⟩)))
local macro_rules | `(tactic| walk_at "at") => `(tactic| first | assumption | exact upd_same | exact at_new (by assumption) | (refine at_same (by assumption) ?_; walk_at "at") | (refine at_old (by assumption) ?_ ?_; (focus walk_at "ne"); walk_at "at") | (refine at_upd ?_ ?_; (focus walk_at "ne"); walk_at "at") | (refine at_stay (by assumption) ?_ ?_; (focus walk_at "ne"); walk_at "at"))
local macro_rules | `(tactic| walk_at "ex") => `(tactic| first | exact ⟨_, by assumption⟩ | exact ⟨_, upd_same⟩ | exact ⟨_, at_new (by assumption)⟩ | (refine ex_same (by assumption) ?_; walk_at "ex") | (refine ex_old (by assumption) ?_; walk_at "ex") | (refine ex_upd ?_; walk_at "ex") | (refine ex_stay (by assumption) ?_ ?_; (focus walk_at "ne"); walk_at "ex"))
local macro_rules | `(tactic| walk_at "ne") => `(tactic| first | assumption | (refine Ne.symm ?_; assumption) | (refine ne_fx (by assumption) ?_; walk_at "ex") | (refine Ne.symm (ne_fx (by assumption) ?_); walk_at "ex") | (refine ne_kx (by assumption) ?_; (apply Exists.intro; refine And.intro ?_ ?_; (focus walk_at "at"); (intro z; cases z))) | (refine Ne.symm (ne_kx (by assumption) ?_); (apply Exists.intro; refine And.intro ?_ ?_; (focus walk_at "at"); (intro z; cases z))))
section
variable {P : Program} {w : World} {K : PySem.W.Frag} {mg : Str → Option Value} {base : Heap} {C AO AP AS AT AM CB CT : Addr} {es : Array DictEntry} {en : Nat}
abbrev s_FunctionD_initD : Stmt := inClass (top 27) 0
theorem sc_FunctionD_initD : FnScope ["self", "text", "rows", "row"] ["self", "text"] (defScope s_FunctionD_initD) := ⟨rfl, rfl, rfl, by decide +kernel, rfl, by decide +kernel, by decide +kernel⟩
theorem ok_finit {f : Addr} {fd : FuncData} (F : Fun K "__init__" "Function.__init__" s_FunctionD_initD f fd) (T : Txt mg) (D : FnD K w mg AO AP AS AT AM es en) (R : FnK K C) (EB : ErMk P w K mg base 2 "BadFunction" CB "row") (ET : ErMk P w K mg base 2 "TooMany" CT "what") (c_spaced : Cal P w K mg base "_spaced" 1 spSpaced) (c_blocks : CalX P w K mg base "_blocks_of" 4 (spBlocks K CB)) : FnOk P w K mg base (L2.CX P w) 5 f fd ["self", "text"] (spFInit C CB CT) := by
  refine F.okX sc_FunctionD_initD (fun vs H Q E h => ?_) (fun cdv A outer s H vs Q E hr h => ?_)
  · obtain ⟨x, dx, t, rfl, _⟩ := h
    rfl
  · obtain ⟨x, dx, t, rfl, hx, hlen, hraw, kr, kb, kl, k⟩ := h
    have hu := hu_of hr
    refine ⟨_, (pss_cons (ps_if (pt_not (pt_val (pe_callB call_isi (by rfl) T.n_isinstance (by decide +kernel) (pa_cons (pv 1) (pa_cons (pe_bltn (v := .ty "str") rfl T.n_str rfl rfl) pa_nil))))) (pss_one (ps_raise rfl (takes_of rfl rfl rfl rfl) (pmk_er EB (hr.mono (by decide)) (pa_cons (pe_un un_neg pe_int) pa_nil)))) pss_nil)
      (pss_cons (ps_set (i := 2) sc_FunctionD_initD.nd rfl (Or.inl rfl) (pe_split (pv 1) pe_str))
      (pss_cons (ps_if (pt_cmpR op_gt (pe_callB call_len_seq (by rfl) T.n_len (by decide +kernel) (pa_cons (pv 2) pa_nil)) (pe_globI rfl T.mg_MOST_ROWS) (nomark _)) (pss_one (ps_raise rfl (takes_of rfl rfl rfl rfl) (pmk_er ET (hr.mono (by decide)) (pa_cons pe_str pa_nil)))) pss_nil)
      (pss_cons (ps_fld (pv 0) (pe_callTy call_tuple_of (by rfl) T.n_tuple (by decide +kernel) (pa_cons (pe_lc (own := [("row", 3)]) (g := gName 3) (by rfl) sc_FunctionD_initD.nd (pi_list (pv 2)) (blkOk_by (own := [("row", 3)]) (N := ["self", "text", "rows", "row"]) (sc := defScope s_FunctionD_initD) (by decide +kernel)) (fun _ _ _ _ _ => (pg_name (i := 3) sc_FunctionD_initD.nd rfl (Or.inl rfl))) (fun _ _ _ _ _ => pts_nil) (fun _ _ _ _ _ => (pe_cal c_spaced (hr.mono (by decide)) (pa_cons (pv 3) pa_nil)))) pa_nil)) rfl)
      (pss_cons (ps_fld (pv 0) (pe_calX c_blocks (hr.mono (by decide)) (at_def (takes_of rfl rfl rfl rfl)) (pa_cons (pe_fld (pv 0) rfl) pa_nil)) rfl)
      (pss_cons (ps_fld (pv 0) (pe_callTy call_tuple_of (by rfl) T.n_tuple (by decide +kernel) (pa_cons (pe_callB (GsY.cr_sortedT (by rfl)) (by rfl) T.n_sorted (by decide +kernel) (pa_cons (GsY.pe_scK (own := [("row", 3)]) (g := gName 3) (by rfl) sc_FunctionD_initD.nd (pi_tup (pe_fld (pv 0) rfl)) (blkOk_by (own := [("row", 3)]) (N := ["self", "text", "rows", "row"]) (sc := defScope s_FunctionD_initD) (by decide +kernel)) (fun _ _ _ _ _ => (pg_name (i := 3) sc_FunctionD_initD.nd rfl (Or.inl rfl))) (fun _ _ _ _ _ => (pts_one (pt_val (pe_m1 PySem.F.slot_str_startswith PySem.F.type_str_startswith mt_startswith (pv 3) pe_str)))) (fun _ _ _ _ _ => (pe_ix (ix_listK (K := K) rfl) (pe_split (pv 3) pe_str) pe_int (fun _ _ => rfl)))) pa_nil)) pa_nil)) rfl)
      (pss_one (ps_if (pt_cmpR op_gt (pe_callB call_len_seq (by rfl) T.n_len (by decide +kernel) (pa_cons (pe_fld (pv 0) rfl) pa_nil)) (pe_globI rfl T.mg_MOST_LISTS) (nomark _)) (pss_one (ps_raise rfl (takes_of rfl rfl rfl rfl) (pmk_er ET (hr.mono (by decide)) (pa_cons pe_str pa_nil)))) pss_nil)))))))), ?_⟩
    walk_at "rd"
    refine ⟨_, _, _, _, true, rfl, .ty "str", .base (.str t), kit_same _, ?_⟩
    walk_at "rd"
    refine ⟨⟨_, rfl⟩, ?_⟩
    refine ⟨_, _, rfl, rfl, rfl, hlen, fun q hq => ?_⟩
    have hrl : (rowsOf t).length = ((Txt.split t "\n").map V.str).length := by unfold rowsOf; rw [List.length_map, List.length_map]
    have S1 := same_new (o := .lst ((Txt.split t "\n").map V.str)) (fun a u (e : H a = some u) => e) hq
    have hq1 : (upd H q (.lst ((Txt.split t "\n").map V.str))) q = some (.lst ((Txt.split t "\n").map V.str)) := upd_same
    generalize upd H q (.lst ((Txt.split t "\n").map V.str)) = H1 at S1 hq1
    clear hq
    walk_at "rd"
    refine ⟨q, _, rfl, .inl (SqL.of hq1), ?_⟩
    walk_at "rd"
    refine ite2 (fun hm => ?_) (fun hm => ?_)
    · have hm : 24 < (rowsOf t).length := by have := of_decide_eq_true hm; rw [hrl]; omega
      refine ⟨(by show 1 ≤ 1000; decide), fun a ha => er_go (.inl ⟨_, rfl, sm_rows⟩) ha fun d' H9 h1 h2 h3 => kr hm d' H9 (none_back S1 h1) h2 (Stay.of (same_trans S1 h3))⟩
    · have hm : (rowsOf t).length ≤ 24 := by
        have : ¬ (24 : Int) < _ := fun h => hm (decide_eq_true h)
        rw [hrl]; omega
      have hx1 := S1 _ _ hx
      walk_at "rd"
      have xq : x ≠ q := fun z => by rw [z, hq1] at hx1; cases hx1
      refine ⟨⟨_, SqL.of hq1⟩, fun D1 hD1 => lc_list (a := q) (xs := (Txt.split t "\n").map V.str) (fun i H' => H' D1 = some (.lst (((rowsOf t).take i).map V.str)) ∧ Same H1 H') ⟨upd_same, same_new (fun _ _ e => e) hD1⟩ (fun i H' _ h => SqL.of (h.2 _ _ hq1)) ?_ ?_⟩
      · rintro i v H' hi ⟨ha, S5⟩
        rw [List.getElem?_map] at hi
        obtain ⟨r, hr, rfl⟩ := Option.map_eq_some_iff.mp hi
        refine ⟨rfl, ?_⟩
        walk_at "rd"
        refine ⟨hraw r (List.mem_of_getElem? hr), fun H5 S6 => ⟨_, S6 _ _ ha, ?_, ?_, same_over (same_trans S5 S6) hD1⟩⟩
        · rw [List.length_map, List.length_take]
          exact Nat.lt_of_lt_of_le (m := 25) (by omega) (by decide)
        · have et : (rowsOf t).take (i + 1) = (rowsOf t).take i ++ [spc r] := by
            have : (rowsOf t)[i]? = some (spc r) := by unfold rowsOf; rw [List.getElem?_map, hr]; rfl
            rw [List.take_succ, this]
            rfl
          rw [upd_same, et, List.map_append]
          rfl
      · rintro H' ⟨ha, S5⟩
        rw [← hrl, List.take_length] at ha
        walk_at "rd"
        refine ⟨D1, _, rfl, .inl ⟨SqL.of ha, fun a1 h1 => ?_⟩⟩
        have hx2 := S5 _ _ hx1
        have xa : x ≠ a1 := fun z => by rw [z, h1] at hx2; cases hx2
        have hx3 := (upd_ne (o := .tup ((rowsOf t).map V.str)) xa).trans hx2
        walk_at "rd"
        refine ⟨x, C, dx, [], rfl, hx3, R.cl, R.n1, by decide, ?_⟩
        have S6 : Same H (upd H' a1 (.tup ((rowsOf t).map V.str))) := same_new (same_trans S1 S5) h1
        have St2 : Stay x H (upd (upd H' a1 (.tup ((rowsOf t).map V.str))) x (.ins C dx (putF "rows" (.ref a1) []))) := (Stay.of S6).upd
        have y1 : (upd (upd H' a1 (.tup ((rowsOf t).map V.str))) x (.ins C dx (putF "rows" (.ref a1) []))) x = some (.ins C dx (putF "rows" (.ref a1) [])) := upd_same
        have y2 : (upd (upd H' a1 (.tup ((rowsOf t).map V.str))) x (.ins C dx (putF "rows" (.ref a1) []))) a1 = some (.tup ((rowsOf t).map V.str)) := (upd_ne xa.symm).trans upd_same
        generalize (upd (upd H' a1 (.tup ((rowsOf t).map V.str))) x (.ins C dx (putF "rows" (.ref a1) []))) = H2 at St2 y1 y2
        clear ha S5 S6 hx3 hx2 h1
        walk_at "rd"
        refine ⟨x, C, dx, _, .ref a1, rfl, y1, R.cl, R.n1, rfl, ?_⟩
        refine ⟨a1, rowsOf t, rfl, SqT.of y2, by omega, ?_, ?_, ?_⟩
        · intro r hr
          obtain ⟨r0, h0, rfl⟩ := List.mem_map.mp hr
          exact (hraw r0 h0).row
        · intro good b1 H3 hb1 hb2 S3
          have xb : x ≠ b1 := fun z => by rw [z, hb1] at y1; cases y1
          have y1' := S3 _ _ y1
          walk_at "rd"
          refine ⟨x, C, dx, _, rfl, y1', R.cl, R.n2, by show 1 < 1000; decide, ?_⟩
          have St3 : Stay x H (upd H3 x (.ins C dx (putF "_blocks" (.ref b1) (putF "rows" (.ref a1) [])))) := (St2.trans (Stay.of S3)).upd
          have z1 : (upd H3 x (.ins C dx (putF "_blocks" (.ref b1) (putF "rows" (.ref a1) [])))) x = some (.ins C dx (putF "_blocks" (.ref b1) (putF "rows" (.ref a1) []))) := upd_same
          have z2 := (upd_ne (o := .ins C dx (putF "_blocks" (.ref b1) (putF "rows" (.ref a1) []))) xa.symm).trans (S3 _ _ y2)
          have z3 := (upd_ne (o := .ins C dx (putF "_blocks" (.ref b1) (putF "rows" (.ref a1) []))) xb.symm).trans hb2
          generalize (upd H3 x (.ins C dx (putF "_blocks" (.ref b1) (putF "rows" (.ref a1) [])))) = H4 at St3 z1 z2 z3
          clear y1 y2 y1' St2 hb1 hb2 S3
          walk_at "rd"
          refine ⟨x, C, dx, _, .ref a1, rfl, z1, R.cl, R.n1, rfl, ?_⟩
          refine ⟨a1, rfl, ⟨_, SqT.of z2⟩, fun S hS => ?_⟩
          have xS : x ≠ S := fun z => by rw [z, hS] at z1; cases z1
          refine GsY.sc_it (walk_tup (a := a1) (xs := (rowsOf t).map V.str)) (fun i H' => ∃ xs : List Str, H' S = some (GsX.SetO P w S (xs.map Sum.inr)) ∧ xs.Nodup ∧ xs.length ≤ i ∧ (∀ z, z ∈ xs ↔ z ∈ secs ((rowsOf t).take i)) ∧ Same H4 H') ?_ ?_ ?_ ?_
          · exact ⟨[], upd_same, .nil, Nat.le_refl _, fun z => by simp [secs], same_new (fun _ _ e => e) hS⟩
          · rintro i H' _ ⟨_, _, _, _, _, S5⟩
            exact SqT.of (S5 _ _ z2)
          · rintro i v H5 H6 hi ⟨xs, u1, u2, u3, u4, S5⟩ ⟨rfl, hv⟩
            rw [List.getElem?_map] at hv
            obtain ⟨r, hr, rfl⟩ := Option.map_eq_some_iff.mp hv
            have hR : Row r ∧ (Txt.startswith r "each " = true → ((Txt.split r " ").map V.str)[1]? = some (.str (sec r))) := by
              obtain ⟨r0, h0, e0⟩ := List.mem_map.mp (List.mem_of_getElem? hr)
              rw [← e0]
              exact ⟨(hraw r0 h0).row, (hraw r0 h0).two⟩
            rw [List.length_map] at hi
            unfold GsY.turnK
            refine ⟨rfl, ?_⟩
            walk_at "rd"
            refine ⟨⟨_, rfl⟩, ?_⟩
            walk_at "rd"
            refine ite2 (fun hs => ?_) (fun hs => ?_)
            · walk_at "rd"
              refine ⟨⟨_, rfl⟩, ?_⟩
              refine ⟨_, _, rfl, rfl, rfl, hR.1.len, fun y hy => ?_⟩
              refine ⟨y, _, _, _, rfl, rfl, SqL.of upd_same, atI_nat (j := 1) (hR.2 hs), ?_⟩
              have yS : S ≠ y := fun z => by rw [← z, u1] at hy; cases hy
              obtain ⟨xs', w1, w2, w3, w4⟩ := addS u2 (sec r)
              refine ⟨.inr (sec r), xs.map Sum.inr, rfl, (upd_ne yS).trans u1, ?_, ?_⟩
              · rw [List.length_map]
                exact Nat.lt_of_lt_of_le (m := 64) (by omega) (by decide)
              · refine ⟨xs', ?_, w2, by omega, fun z => ?_, same_over (same_new S5 hy) hS⟩
                · rw [upd_same, w1]; rfl
                · rw [w4, u4, secs_t hr hs]
                  simp
            · refine ⟨xs, u1, u2, by omega, fun z => ?_, S5⟩
              rw [u4, secs_f hr hs]
          · rintro H5 ⟨xs, u1, u2, u3, u4, S5⟩
            rw [List.length_map] at u3 u4
            rw [List.take_length] at u4
            have xz := S5 _ _ z1
            refine ⟨S, xs, rfl, u1, Nat.lt_of_le_of_lt u3 (by omega), fun ys p2 hperm hsort hp2 => ?_⟩
            walk_at "rd"
            have xp : x ≠ p2 := fun z => by rw [z, hp2] at xz; cases xz
            have S7 := same_new (o := .lst (ys.map V.str)) S5 hp2
            have hys : (upd H5 p2 (.lst (ys.map V.str))) p2 = some (.lst (ys.map V.str)) := upd_same
            generalize upd H5 p2 (.lst (ys.map V.str)) = H6 at S7 hys
            refine ⟨p2, _, rfl, .inl ⟨SqL.of hys, fun c1 hc1 => ?_⟩⟩
            have xz6 := S7 _ _ z1
            have xc : x ≠ c1 := fun z => by rw [z, hc1] at xz6; cases xz6
            walk_at "rd"
            refine ⟨x, C, dx, _, rfl, (upd_ne xc).trans xz6, R.cl, R.n3, by show 2 < 1000; decide, ?_⟩
            have St4 : Stay x H (upd (upd H6 c1 (.tup (ys.map V.str))) x (.ins C dx (putF "lists" (.ref c1) (putF "_blocks" (.ref b1) (putF "rows" (.ref a1) []))))) := (St3.trans (Stay.of (same_new S7 hc1))).upd
            have v1 : (upd (upd H6 c1 (.tup (ys.map V.str))) x (.ins C dx (putF "lists" (.ref c1) (putF "_blocks" (.ref b1) (putF "rows" (.ref a1) []))))) x = some (.ins C dx (putF "lists" (.ref c1) (putF "_blocks" (.ref b1) (putF "rows" (.ref a1) [])))) := upd_same
            have v2 := (upd_ne (o := .ins C dx (putF "lists" (.ref c1) (putF "_blocks" (.ref b1) (putF "rows" (.ref a1) [])))) xa.symm).trans ((upd_ne (o := .tup (ys.map V.str)) (ne_of_none (S7 _ _ z2) hc1)).trans (S7 _ _ z2))
            have v3 := (upd_ne (o := .ins C dx (putF "lists" (.ref c1) (putF "_blocks" (.ref b1) (putF "rows" (.ref a1) [])))) xb.symm).trans ((upd_ne (o := .tup (ys.map V.str)) (ne_of_none (S7 _ _ z3) hc1)).trans (S7 _ _ z3))
            have v4 : (upd (upd H6 c1 (.tup (ys.map V.str))) x (.ins C dx (putF "lists" (.ref c1) (putF "_blocks" (.ref b1) (putF "rows" (.ref a1) []))))) c1 = some (.tup (ys.map V.str)) := (upd_ne xc.symm).trans upd_same
            generalize (upd (upd H6 c1 (.tup (ys.map V.str))) x (.ins C dx (putF "lists" (.ref c1) (putF "_blocks" (.ref b1) (putF "rows" (.ref a1) []))))) = H7 at St4 v1 v2 v3 v4
            have hL : Lists (rowsOf t) ys := ⟨hsort, hperm.nodup_iff.mpr u2, fun z => hperm.mem_iff.trans (u4 z)⟩
            walk_at "rd"
            refine ⟨x, C, dx, _, .ref c1, rfl, v1, R.cl, R.n3, rfl, ?_⟩
            refine ⟨c1, _, rfl, .inr (SqT.of v4), ?_⟩
            walk_at "rd"
            rw [List.length_map]
            refine ite2 (fun hg => ?_) (fun hg => ?_)
            · have hg : 3 < ys.length := by have := of_decide_eq_true hg; omega
              refine ⟨(by show 1 ≤ 1000; decide), fun a ha => er_go (.inl ⟨_, rfl, sm_lists⟩) ha fun d' H9 h1 h2 h3 => kl hm good ys hL hg d' H9 ?_ h2 (St4.trans (Stay.of h3))⟩
              by_cases z : d' = x
              · rw [z, v1] at h1; cases h1
              · cases e : H d' with
                | none => rfl
                | some o => rw [St4 _ _ z e] at h1; cases h1
            · have hg : ys.length ≤ 3 := by
                have : ¬ (3 : Int) < _ := fun h => hg (decide_eq_true h)
                omega
              exact k hm good ys hL hg H7 ⟨a1, b1, c1, v1, v2, v3, v4⟩ St4
        · intro n bad d' H9 h1 h2 h3
          refine kb hm n bad d' H9 ?_ h2 (St2.trans (Stay.of h3))
          by_cases z : d' = x
          · rw [z, y1] at h1; cases h1
          · cases e : H d' with
            | none => rfl
            | some o => rw [St2 _ _ z e] at h1; cases h1
end
end Ow

set_option Elab.async false
set_option linter.all false
set_option maxRecDepth 100000
set_option maxHeartbeats 1000000
/-! a row of a list of any name: each x -/
namespace Fn
open PySem PySem.Spec PyProof.Rows L2 Ow ErX
theorem lc_cps {x : Str} (h : isLc x.cps.toList = true) : (∀ c ∈ TL.tl x, 97 ≤ c ∧ c ≤ 122) ∧ 1 ≤ x.length ∧ x.length ≤ 3 := by
  unfold isLc at h
  rw [Bool.and_eq_true, Bool.and_eq_true, decide_eq_true_eq, decide_eq_true_eq, List.all_eq_true] at h
  obtain ⟨h1, h2, h3⟩ := h
  rw [Array.length_toList] at h1 h2
  refine ⟨fun c hc => ?_, h1, h2⟩
  have := h3 c hc
  rw [Bool.and_eq_true, decide_eq_true_eq, decide_eq_true_eq] at this
  exact this
theorem sp_tl : TL.tl (" " : Str) = 32 :: [] := by decide +kernel
theorem each_split {x : Str} (h : isLc x.cps.toList = true) : Txt.split (("each " : Str) ++ x) " " = [("each" : Str), x] := by
  obtain ⟨hc, _⟩ := lc_cps h
  have e : ("each " : Str) ++ x = Txt.join " " [("each" : Str), x] := by
    refine TL.ext_tl ?_
    rw [TL.join_eq, TL.tl_append, TL.tl_join]
    rfl
  rw [e]
  refine TL.split_join sp_tl (by decide +kernel) (by simp) fun p hp => ?_
  rcases List.mem_cons.mp hp with hp | hp
  · rw [hp]; decide +kernel
  · rw [List.mem_singleton.mp hp]
    intro hm
    have := (hc _ hm).1
    omega
theorem each_part {x : Str} (h : isLc x.cps.toList = true) : pt1 (("each " : Str) ++ x) = "each" ∧ pt3 (("each " : Str) ++ x) = x := by
  have e : ("each " : Str) ++ x = ("each" : Str) ++ (" " : Str) ++ x := by
    refine TL.ext_tl ?_
    rw [TL.tl_append, TL.tl_append, TL.tl_append]
    rfl
  have hp : Txt.partition (("each " : Str) ++ x) " " = (("each" : Str), (" " : Str), x) := by
    rw [e]
    exact TL.partition_app sp_tl (by decide +kernel)
  unfold pt1 pt3
  rw [hp]
  exact ⟨rfl, rfl⟩
theorem each_row {x : Str} (h : isLc x.cps.toList = true) : wds (("each " : Str) ++ x) = [("each" : Str), x] ∧ spc (("each " : Str) ++ x) = ("each " : Str) ++ x ∧ hd (("each " : Str) ++ x) = "each" ∧ sec (("each " : Str) ++ x) = x ∧ wr (("each " : Str) ++ x) = true := by
  have hs := each_split h
  obtain ⟨_, l1, l3⟩ := lc_cps h
  have hx : ¬ x = ("" : Str) := fun e => by rw [e] at l1; exact absurd l1 (by decide +kernel)
  have hw : wds (("each " : Str) ++ x) = [("each" : Str), x] := by
    unfold wds
    rw [hs, List.filter_cons, List.filter_cons, decS, decS, decide_eq_false hx]
    rfl
  refine ⟨hw, ?_, ?_, ?_, ?_⟩
  · unfold spc
    rw [hw]
    refine TL.ext_tl ?_
    rw [TL.join_eq, TL.tl_append, TL.tl_join]
    rfl
  · unfold hd; rw [hs]; rfl
  · unfold sec; rw [hs]; rfl
  · unfold wr
    rw [(each_part h).1, (each_part h).2, if_pos rfl]
    exact h
end Fn

set_option Elab.async false
set_option linter.all false
set_option maxRecDepth 100000
set_option maxHeartbeats 1000000
/-! rows that keep the stack: what a drawn function's rows are put together of -/
namespace Fn
open PySem PySem.Spec PyProof.Rows L2 Ow ErX
/-- the stack behind some rows, the first of them row i; none where one is wrong -/
def runW : Nat → Bl → List Str → Option Bl
  | _, bs, [] => some bs
  | i, bs, r :: l => if isW r (sn bs) = true then none else runW (i + 1) (step i r bs) l
theorem runW_app : ∀ {l1 : List Str} {i : Nat} {bs : Bl} {l2 : List Str}, runW i bs (l1 ++ l2) = (runW i bs l1).bind fun b => runW (i + l1.length) b l2
  | [], i, bs, l2 => rfl
  | r :: l1, i, bs, l2 => by
    have ih := runW_app (l1 := l1) (i := i + 1) (bs := step i r bs) (l2 := l2)
    show (if isW r (sn bs) = true then none else runW (i + 1) (step i r bs) (l1 ++ l2)) = (if isW r (sn bs) = true then none else runW (i + 1) (step i r bs) l1).bind _
    by_cases h : isW r (sn bs) = true
    · rw [if_pos h, if_pos h]; rfl
    · rw [if_neg h, if_neg h, ih, List.length_cons, show i + 1 + l1.length = i + (l1.length + 1) by omega]
/-- what runs through is as the program says -/
theorem run_st {rs : List Str} : ∀ {l : List Str} {i : Nat} {b : Bl}, rs.drop i = l → runW i (stAt rs i) l = some b → stAt rs rs.length = b ∧ ∀ j, i ≤ j → j < rs.length → ¬ NotOk rs j
  | [], i, b, hd, h => by
    have hi : rs.length ≤ i := List.drop_eq_nil_iff.mp hd
    have e : ∀ k, rs.length ≤ k → stAt rs k = stAt rs rs.length := fun k hk => by
      induction k with
      | zero => rw [Nat.le_zero.mp hk]
      | succ k ih =>
        by_cases z : rs.length = k + 1
        · rw [z]
        · have hn : rs[k]? = none := List.getElem?_eq_none (by omega)
          show (match rs[k]? with | some r => step k r (stAt rs k) | none => stAt rs k) = _
          rw [hn]
          exact ih (by omega)
    refine ⟨?_, fun j h1 h2 => absurd h2 (by omega)⟩
    rw [← e i hi]
    exact Option.some.inj h
  | r :: l, i, b, hd, h => by
    have hr : rs[i]? = some r := by
      have := congrArg List.head? hd
      rw [List.head?_drop] at this
      exact this
    have hd2 : rs.drop (i + 1) = l := by
      have := congrArg List.tail hd
      rw [List.tail_drop] at this
      exact this
    have h : (if isW r (sn (stAt rs i)) = true then none else runW (i + 1) (step i r (stAt rs i)) l) = some b := h
    by_cases hw : isW r (sn (stAt rs i)) = true
    · rw [if_pos hw] at h; cases h
    · rw [if_neg hw, ← st_succ hr] at h
      obtain ⟨h1, h2⟩ := run_st hd2 h
      refine ⟨h1, fun j hj hl => ?_⟩
      by_cases z : j = i
      · subst z
        rintro ⟨r', hr', hw'⟩
        rw [hr] at hr'
        cases hr'
        exact hw hw'
      · exact h2 j (by omega) hl
theorem good_run {rs : List Str} (h : runW 0 [] rs = some []) : Good rs := by
  obtain ⟨h1, h2⟩ := run_st (rs := rs) (l := rs) (i := 0) rfl h
  exact ⟨fun j hj => h2 j (Nat.zero_le _) hj, h1⟩
/-- rows that stand in the parts ps and leave them as they were -/
def Keeps (ps : List Str) (l : List Str) : Prop := ∀ (i : Nat) (bs : Bl), sn bs = ps → runW i bs l = some bs
theorem keeps_nil (ps : List Str) : Keeps ps [] := fun _ _ _ => rfl
theorem keeps_app {ps l1 l2 : List Str} (h1 : Keeps ps l1) (h2 : Keeps ps l2) : Keeps ps (l1 ++ l2) := fun i bs e => by
  rw [runW_app, h1 i bs e]
  exact h2 _ bs e
theorem keeps_row {ps : List Str} {r : Str} (hw : isW r ps = false) (h1 : ¬ inS OPN (hd r) = true) (h2 : ¬ (mid (hd r)).isSome = true) (h3 : ¬ hd r = "end") : Keeps ps [r] := fun i bs e => by
  show (if isW r (sn bs) = true then none else runW (i + 1) (step i r bs) []) = _
  rw [e, hw, if_neg (by decide), same_fs h1 h2 h3]
  rfl
/-- r, rows inside it, end -/
theorem keeps_block {ps l : List Str} {r : Str} (hw : isW r ps = false) (h1 : inS OPN (hd r) = true) (hl : Keeps (ps ++ [hd r]) l) (he : isW "end" (ps ++ [hd r]) = false) : Keeps ps (r :: (l ++ [("end" : Str)])) := fun i bs e => by
  have hs : step i r bs = bs ++ [(i, hd r)] := by unfold step; rw [if_pos h1]
  have hn : sn (bs ++ [(i, hd r)]) = ps ++ [hd r] := by unfold sn at e ⊢; rw [List.map_append, e]; rfl
  show (if isW r (sn bs) = true then none else runW (i + 1) (step i r bs) (l ++ [("end" : Str)])) = _
  rw [e, hw, if_neg (by decide), hs, runW_app, hl _ _ hn]
  show (if isW "end" (sn (bs ++ [(i, hd r)])) = true then none else some (step (i + 1 + l.length) "end" (bs ++ [(i, hd r)]))) = some bs
  rw [hn, he, if_neg (by decide)]
  congr 1
  unfold step
  rw [if_neg (by decide +kernel), if_neg (by decide +kernel), if_pos (by decide +kernel)]
  simp
/-- r, rows, a middle m, rows, end -/
theorem keeps_block2 {ps l l2 : List Str} {r m : Str} (hw : isW r ps = false) (h1 : inS OPN (hd r) = true) (hl : Keeps (ps ++ [hd r]) l) (hm : isW m (ps ++ [hd r]) = false) (hm1 : ¬ inS OPN (hd m) = true) (hm2 : (mid (hd m)).isSome = true) (hl2 : Keeps (ps ++ [hd m]) l2) (he : isW "end" (ps ++ [hd m]) = false) : Keeps ps (r :: (l ++ m :: (l2 ++ [("end" : Str)]))) := fun i bs e => by
  have hs : step i r bs = bs ++ [(i, hd r)] := by unfold step; rw [if_pos h1]
  have hn : sn (bs ++ [(i, hd r)]) = ps ++ [hd r] := by unfold sn at e ⊢; rw [List.map_append, e]; rfl
  have hn2 : sn (bs ++ [(i, hd m)]) = ps ++ [hd m] := by unfold sn at e ⊢; rw [List.map_append, e]; rfl
  have hs2 : step (i + 1 + l.length) m (bs ++ [(i, hd r)]) = bs ++ [(i, hd m)] := by
    unfold step
    rw [if_neg hm1, if_pos hm2]
    simp
  show (if isW r (sn bs) = true then none else runW (i + 1) (step i r bs) (l ++ m :: (l2 ++ [("end" : Str)]))) = _
  rw [e, hw, if_neg (by decide), hs, runW_app, hl _ _ hn]
  show (if isW m (sn (bs ++ [(i, hd r)])) = true then none else runW (i + 1 + l.length + 1) (step (i + 1 + l.length) m (bs ++ [(i, hd r)])) (l2 ++ [("end" : Str)])) = some bs
  rw [hn, hm, if_neg (by decide), hs2, runW_app, hl2 _ _ hn2]
  show (if isW "end" (sn (bs ++ [(i, hd m)])) = true then none else some (step (i + 1 + l.length + 1 + l2.length) "end" (bs ++ [(i, hd m)]))) = some bs
  rw [hn2, he, if_neg (by decide)]
  congr 1
  unfold step
  rw [if_neg (by decide +kernel), if_neg (by decide +kernel), if_pos (by decide +kernel)]
  simp
end Fn

set_option Elab.async false
set_option linter.all false
set_option maxRecDepth 100000
set_option maxHeartbeats 1000000
/-! where a drain or a close may stand, by the parts around -/
namespace Fn
open PySem PySem.Spec PyProof.Rows L2 Ow ErX
def scanP (word : Str) : List Str → Bool
  | [] => false
  | p :: r => if p = "rescue" then true else if p = "retry" ∧ word = "close" then false else scanP word r
def mayR (ps : List Str) (word : Str) : Bool := if inS ps "each" = false then true else scanP word (ps.drop (ps.idxOf ("each" : Str)))
theorem cinS (x a : Str) (l : List Str) : inS (a :: l) x = (decide (a = x) || inS l x) := by
  rw [Bool.eq_iff_iff, inS_mem, List.mem_cons, Bool.or_eq_true, inS_mem, decide_eq_true_eq]
  exact ⟨fun h => h.imp Eq.symm id, fun h => h.imp Eq.symm id⟩
theorem scanP_eq (word : Str) : ∀ {M : List Str}, scanP word M = (inS M "rescue" && !(decide (word = "close") && inS (bef M "rescue") "retry"))
  | [] => rfl
  | p :: M => by
    have ih := scanP_eq word (M := M)
    unfold scanP
    by_cases e : p = "rescue"
    · rw [if_pos e, e, cinS]
      have : bef (("rescue" : Str) :: M) "rescue" = [] := by unfold bef; rw [List.idxOf_cons, beq_self_eq_true]; rfl
      rw [this]
      simp [inS, inV]
    · have b1 : bef (p :: M) "rescue" = p :: bef M "rescue" := by
        unfold bef
        rw [List.idxOf_cons, beq_false_of_ne e]
        rfl
      rw [if_neg e, b1, cinS, cinS, decide_eq_false e, Bool.false_or]
      by_cases e2 : p = "retry"
      · by_cases e4 : word = "close"
        · rw [if_pos ⟨e2, e4⟩, decide_eq_true e2, decide_eq_true e4]
          simp
        · rw [if_neg (fun z => e4 z.2), ih, decide_eq_false e4]
          simp
      · rw [if_neg (fun z => e2 z.1), ih, decide_eq_false e2]
        simp
theorem mayR_eq (ps : List Str) (word : Str) : stW word ps = !mayR ps word := by
  unfold stW mayR
  by_cases e : inS ps "each" = false
  · rw [if_pos e, if_pos e]; rfl
  · rw [if_neg e, if_neg e]
    have e' : inS ps "each" = true := by simpa using e
    have hd : ps.drop (ps.idxOf ("each" : Str)) = ("each" : Str) :: aft ps "each" := by
      have h := List.drop_eq_getElem_cons (idx_lt e')
      rw [h, List.getElem_idxOf]
      rfl
    have hs : scanP word (("each" : Str) :: aft ps "each") = scanP word (aft ps "each") := by
      show (if _ then _ else if _ then _ else _) = _
      rw [if_neg (by decide +kernel), if_neg (fun z => absurd z.1 (by decide +kernel))]
    rw [hd, hs, scanP_eq]
    generalize inS (aft ps "each") "rescue" = x
    generalize (decide (word = "close") && inS (bef (aft ps "each") "rescue") "retry") = y
    cases x <;> cases y <;> rfl
end Fn

set_option Elab.async false
set_option linter.all false
set_option maxRecDepth 100000
set_option maxHeartbeats 2000000
/-! the rows of this law, its stack of open blocks, and what they are to the program's -/
namespace Fn
open PySem PySem.Spec PyProof.Rows L2 Ow ErX
abbrev LS := List (Str × Str)
def MDL : List Str := ["else", "finally", "rescue"]
def ones (L : LS) : List Str := L.map (·.1)
def prts (L : LS) : List Str := L.map (·.2)
def scan (word : Str) : LS → Bool
  | [] => false
  | (o, p) :: r => if p = "rescue" then true else if o = "retry" ∧ word = "close" then false else scan word r
def resets (L : LS) (word : Str) : Bool := if inS (ones L) "each" = false then true else scan word (L.drop ((ones L).idxOf ("each" : Str)))
def may (L : LS) (word : Str) : Bool :=
  if inS OPN word = true then decide (L.length < 5) && (!(decide (word = "each") && inS (ones L) "each") && !(decide (word = "retry") && decide (1 < ((ones L).filter (· == ("retry" : Str))).length)))
  else if inS MDL word = true then !L.isEmpty && decide (L.getLast? = some ((if word = "else" then ("maybe" : Str) else ("try" : Str)), ("" : Str)))
  else if word = "end" then !L.isEmpty && !decide (L.getLast? = some (("try" : Str), ("" : Str)))
  else if word = "return" then !inS (prts L) "finally" && !inS (prts L) "rescue"
  else !inS ["drain", "close"] word || resets L word
def lstep (L : LS) (word : Str) : LS :=
  if inS OPN word = true then L ++ [(word, ("" : Str))]
  else if inS MDL word = true then L.dropLast ++ (L.getLast?.map fun p => (p.1, word)).toList
  else if word = "end" then L.dropLast else L
def lsAt (rs : List Str) : Nat → LS
  | 0 => []
  | i + 1 => match rs[i]? with | some r => lstep (lsAt rs i) (hd r) | none => lsAt rs i
/-- a pair of the law's stack -/
def VP (p : Str × Str) : Prop := p.1 ∈ OPN ∧ (p.2 = "" ∨ (p.1 = "maybe" ∧ p.2 = "else") ∨ (p.1 = "try" ∧ (p.2 = "finally" ∨ p.2 = "rescue")))
def nm (p : Str × Str) : Str := if p.2 = "" then p.1 else p.2
def nms (L : LS) : List Str := L.map nm
theorem vp_cases {p : Str × Str} (h : VP p) : p = (("each" : Str), ("" : Str)) ∨ p = (("maybe" : Str), ("" : Str)) ∨ p = (("try" : Str), ("" : Str)) ∨ p = (("shield" : Str), ("" : Str)) ∨ p = (("retry" : Str), ("" : Str)) ∨ p = (("maybe" : Str), ("else" : Str)) ∨ p = (("try" : Str), ("finally" : Str)) ∨ p = (("try" : Str), ("rescue" : Str)) := by
  obtain ⟨a, b⟩ := p
  obtain ⟨h1, h2⟩ := h
  simp only at h1 h2
  rcases h2 with h2 | ⟨h2, h3⟩ | ⟨h2, h3 | h3⟩
  · subst h2
    simp only [OPN, List.mem_cons, List.not_mem_nil, or_false] at h1
    rcases h1 with h | h | h | h | h <;> subst h <;> simp
  · subst h2 h3; simp
  · subst h2 h3; simp
  · subst h2 h3; simp
theorem vp_nm {p : Str × Str} (h : VP p) : (nm p = "each" ↔ p.1 = "each") ∧ (nm p = "retry" ↔ p.1 = "retry") ∧ (nm p = "finally" ↔ p.2 = "finally") ∧ (nm p = "rescue" ↔ p.2 = "rescue") ∧ (nm p = "maybe" ↔ p = (("maybe" : Str), ("" : Str))) ∧ (nm p = "try" ↔ p = (("try" : Str), ("" : Str))) ∧ (p.1 = "each" → p.2 = "") ∧ (p.2 = "rescue" → p.1 ≠ "retry") := by
  rcases vp_cases h with h | h | h | h | h | h | h | h <;> subst h <;> decide +kernel
theorem in_nms {L : LS} (h : ∀ p ∈ L, VP p) : inS (nms L) "each" = inS (ones L) "each" ∧ inS (nms L) "finally" = inS (prts L) "finally" ∧ inS (nms L) "rescue" = inS (prts L) "rescue" ∧ (nms L).idxOf ("each" : Str) = (ones L).idxOf ("each" : Str) ∧ (nms L).countP (· == ("retry" : Str)) = ((ones L).filter (· == ("retry" : Str))).length := by
  refine ⟨?_, ?_, ?_, ?_, ?_⟩
  · rw [Bool.eq_iff_iff, inS_mem, inS_mem]
    unfold nms ones
    rw [List.mem_map, List.mem_map]
    exact ⟨fun ⟨p, hp, e⟩ => ⟨p, hp, (vp_nm (h p hp)).1.mp e⟩, fun ⟨p, hp, e⟩ => ⟨p, hp, (vp_nm (h p hp)).1.mpr e⟩⟩
  · rw [Bool.eq_iff_iff, inS_mem, inS_mem]
    unfold nms prts
    rw [List.mem_map, List.mem_map]
    exact ⟨fun ⟨p, hp, e⟩ => ⟨p, hp, (vp_nm (h p hp)).2.2.1.mp e⟩, fun ⟨p, hp, e⟩ => ⟨p, hp, (vp_nm (h p hp)).2.2.1.mpr e⟩⟩
  · rw [Bool.eq_iff_iff, inS_mem, inS_mem]
    unfold nms prts
    rw [List.mem_map, List.mem_map]
    exact ⟨fun ⟨p, hp, e⟩ => ⟨p, hp, (vp_nm (h p hp)).2.2.2.1.mp e⟩, fun ⟨p, hp, e⟩ => ⟨p, hp, (vp_nm (h p hp)).2.2.2.1.mpr e⟩⟩
  · induction L with
    | nil => rfl
    | cons p L ih =>
      have v := (vp_nm (h p (List.mem_cons_self ..))).1
      have ih := ih fun q hq => h q (List.mem_cons_of_mem _ hq)
      show (nm p :: nms L).idxOf ("each" : Str) = (p.1 :: ones L).idxOf ("each" : Str)
      rw [List.idxOf_cons, List.idxOf_cons, ih]
      by_cases e : p.1 = "each"
      · rw [e, v.mpr e]
      · have e2 : ¬ nm p = "each" := fun z => e (v.mp z)
        rw [beq_false_of_ne e, beq_false_of_ne e2]
  · induction L with
    | nil => rfl
    | cons p L ih =>
      have v := (vp_nm (h p (List.mem_cons_self ..))).2.1
      have ih := ih fun q hq => h q (List.mem_cons_of_mem _ hq)
      show (nm p :: nms L).countP (· == ("retry" : Str)) = ((p.1 :: ones L).filter (· == ("retry" : Str))).length
      rw [List.countP_cons, List.filter_cons, ih]
      by_cases e : p.1 = "retry"
      · rw [e, v.mpr e]; rfl
      · have e2 : ¬ nm p = "retry" := fun z => e (v.mp z)
        simp only [beq_false_of_ne e, beq_false_of_ne e2]
        rfl
theorem scan_eq (word : Str) : ∀ {M : LS}, (∀ p ∈ M, VP p) → scan word M = (inS (nms M) "rescue" && !(decide (word = "close") && inS (bef (nms M) "rescue") "retry"))
  | [], _ => rfl
  | p :: M, h => by
    have v := vp_nm (h p (List.mem_cons_self ..))
    have ih := scan_eq word (M := M) fun q hq => h q (List.mem_cons_of_mem _ hq)
    obtain ⟨o, q⟩ := p
    have en : nms ((o, q) :: M) = nm (o, q) :: nms M := rfl
    rw [en]
    have cin : ∀ (x a : Str) (l : List Str), inS (a :: l) x = (decide (a = x) || inS l x) := fun x a l => by
      rw [Bool.eq_iff_iff, inS_mem, List.mem_cons, Bool.or_eq_true, inS_mem, decide_eq_true_eq]
      exact ⟨fun h => h.imp Eq.symm id, fun h => h.imp Eq.symm id⟩
    unfold scan
    by_cases e : q = "rescue"
    · have e1 : nm (o, q) = "rescue" := v.2.2.2.1.mpr e
      rw [if_pos e, e1, cin]
      have : bef (("rescue" : Str) :: nms M) "rescue" = [] := by unfold bef; rw [List.idxOf_cons, beq_self_eq_true]; rfl
      rw [this]
      simp [inS, inV]
    · have e1 : ¬ nm (o, q) = "rescue" := fun z => e (v.2.2.2.1.mp z)
      have b1 : bef (nm (o, q) :: nms M) "rescue" = nm (o, q) :: bef (nms M) "rescue" := by
        unfold bef
        rw [List.idxOf_cons, beq_false_of_ne e1]
        rfl
      rw [if_neg e, b1, cin, cin, decide_eq_false e1, Bool.false_or]
      by_cases e2 : o = "retry"
      · have e3 : nm (o, q) = "retry" := v.2.1.mpr e2
        by_cases e4 : word = "close"
        · rw [if_pos ⟨e2, e4⟩, e3, decide_eq_true e4]
          simp
        · rw [if_neg (fun z => e4 z.2), ih, decide_eq_false e4]
          simp
      · have e3 : ¬ nm (o, q) = "retry" := fun z => e2 (v.2.1.mp z)
        rw [if_neg (fun z => e2 z.1), ih, decide_eq_false e3]
        simp
theorem resets_eq {L : LS} (h : ∀ p ∈ L, VP p) (word : Str) : stW word (nms L) = !resets L word := by
  obtain ⟨h1, _, _, h4, _⟩ := in_nms h
  unfold stW resets
  rw [h1]
  by_cases e : inS (ones L) "each" = false
  · rw [if_pos e, if_pos e]; rfl
  · rw [if_neg e, if_neg e]
    have e' : inS (ones L) "each" = true := by simpa using e
    have hlt : (ones L).idxOf ("each" : Str) < L.length := by
      have := idx_lt e'
      unfold ones at this ⊢
      rw [List.length_map] at this
      exact this
    obtain ⟨p, hp⟩ : ∃ p, L[(ones L).idxOf ("each" : Str)]? = some p := ⟨_, List.getElem?_eq_getElem hlt⟩
    have p1 : p.1 = "each" := by
      have := idx_at e'
      unfold ones at this
      rw [List.getElem?_map, List.getElem?_map] at this
      unfold ones at hp
      rw [hp] at this
      exact V.str.inj (Option.some.inj this)
    have hv := h p (List.mem_of_getElem? hp)
    have p2 : p.2 = "" := (vp_nm hv).2.2.2.2.2.2.1 p1
    have hd : L.drop ((ones L).idxOf ("each" : Str)) = p :: L.drop ((ones L).idxOf ("each" : Str) + 1) := by
      obtain ⟨a, b⟩ := List.getElem?_eq_some_iff.mp hp
      rw [← b]
      exact List.drop_eq_getElem_cons a
    have hs : scan word (L.drop ((ones L).idxOf ("each" : Str))) = scan word (L.drop ((ones L).idxOf ("each" : Str) + 1)) := by
      rw [hd]
      obtain ⟨a, b⟩ := p
      simp only at p1 p2
      subst p1 p2
      show (if _ then _ else if _ then _ else _) = _
      rw [if_neg (by decide +kernel), if_neg (fun z => absurd z.1 (by decide +kernel))]
    have ha : aft (nms L) "each" = nms (L.drop ((ones L).idxOf ("each" : Str) + 1)) := by
      unfold aft
      rw [h4]
      unfold nms
      rw [List.map_drop]
    rw [hs, ha, scan_eq word fun q hq => h q (List.mem_of_mem_drop hq)]
    generalize inS (nms (L.drop ((ones L).idxOf ("each" : Str) + 1))) "rescue" = x
    generalize (decide (word = "close") && inS (bef (nms (L.drop ((ones L).idxOf ("each" : Str) + 1))) "rescue") "retry") = y
    cases x <;> cases y <;> rfl
end Fn

set_option Elab.async false
set_option linter.all false
set_option maxRecDepth 100000
set_option maxHeartbeats 2000000
namespace Fn
open PySem PySem.Spec PyProof.Rows L2 Ow ErX
theorem mid_mdl (w : Str) : (mid w).isSome = inS MDL w := by
  unfold mid
  by_cases h1 : w = "else"
  · subst h1; decide +kernel
  · by_cases h2 : w = "finally"
    · subst h2; decide +kernel
    · by_cases h3 : w = "rescue"
      · subst h3; decide +kernel
      · rw [if_neg h1, if_neg h2, if_neg h3]
        cases e : inS MDL w with
        | false => rfl
        | true =>
          have := inS_mem.mp e
          simp only [MDL, List.mem_cons, List.not_mem_nil, or_false] at this
          exact absurd this (by simp [h1, h2, h3])
theorem mid_of {w m : Str} (h : mid w = some m) : m = (if w = "else" then ("maybe" : Str) else ("try" : Str)) ∧ w ≠ "" ∧ (m = "maybe" ∨ m = "try") := by
  unfold mid at h
  by_cases h1 : w = "else"
  · rw [if_pos h1] at h
    rw [if_pos h1]
    cases h
    exact ⟨rfl, by rw [h1]; decide +kernel, .inl rfl⟩
  · rw [if_neg h1] at h
    rw [if_neg h1]
    by_cases h2 : w = "finally"
    · rw [if_pos h2] at h; cases h; exact ⟨rfl, by rw [h2]; decide +kernel, .inr rfl⟩
    · rw [if_neg h2] at h
      by_cases h3 : w = "rescue"
      · rw [if_pos h3] at h; cases h; exact ⟨rfl, by rw [h3]; decide +kernel, .inr rfl⟩
      · rw [if_neg h3] at h; cases h
theorem nms_last (L : LS) : (nms L).getLast? = L.getLast?.map nm := by unfold nms; exact List.getLast?_map
theorem lastIs_nms {L : LS} (h : ∀ p ∈ L, VP p) {m : Str} (hm : m = "maybe" ∨ m = "try") : lastIs (nms L) m = decide (L.getLast? = some (m, ("" : Str))) := by
  unfold lastIs
  rw [nms_last, Bool.eq_iff_iff, decide_eq_true_eq, decide_eq_true_eq]
  cases e : L.getLast? with
  | none => simp
  | some p =>
    have hv := vp_nm (h p (List.mem_of_getLast? e))
    simp only [Option.map_some, Option.some.injEq]
    rcases hm with rfl | rfl
    · exact hv.2.2.2.2.1
    · exact hv.2.2.2.2.2.1
theorem nms_emp (L : LS) : (nms L).isEmpty = L.isEmpty := by cases L <;> rfl
theorem may_eq {L : LS} (h : ∀ p ∈ L, VP p) {r : Str} (hw : wr r = true) : isW r (nms L) = !may L (hd r) := by
  obtain ⟨h1, h2, h3, h4, h5⟩ := in_nms h
  have hl : (nms L).length = L.length := by unfold nms; rw [List.length_map]
  unfold isW may
  rw [if_neg (by rw [hw]; decide)]
  by_cases e1 : inS OPN (hd r) = true
  · rw [if_pos e1, if_pos e1]
    unfold opW
    rw [hl, h1, h5]
    by_cases g1 : 5 ≤ L.length
    · rw [if_pos g1, decide_eq_false (show ¬ L.length < 5 by omega)]
      rfl
    · rw [if_neg g1, decide_eq_true (show L.length < 5 by omega)]
      by_cases g2 : hd r = "each"
      · rw [if_pos g2, decide_eq_true g2]
        have g3 : ¬ hd r = "retry" := by rw [g2]; decide +kernel
        rw [decide_eq_false g3]
        cases inS (ones L) "each" <;> rfl
      · rw [if_neg g2, decide_eq_false g2]
        have : decide (2 ≤ ((ones L).filter (· == ("retry" : Str))).length) = decide (1 < ((ones L).filter (· == ("retry" : Str))).length) := rfl
        rw [this]
        generalize decide (hd r = "retry") = x
        generalize decide (1 < ((ones L).filter (· == ("retry" : Str))).length) = y
        cases x <;> cases y <;> rfl
  · rw [if_neg e1, if_neg e1, ← mid_mdl]
    cases e2 : mid (hd r) with
    | some m =>
      obtain ⟨m1, _, m2⟩ := mid_of e2
      simp only [Option.isSome_some, if_true]
      rw [nms_emp, lastIs_nms h m2, ← m1]
      cases L.isEmpty <;> cases decide (L.getLast? = some (m, ("" : Str))) <;> rfl
    | none =>
      simp only [Option.isSome_none, Bool.false_eq_true, if_false]
      rw [nms_emp, lastIs_nms h (.inr rfl), h2, h3, resets_eq h]
      by_cases e3 : hd r = "end"
      · rw [if_pos e3, if_pos e3]
        cases L.isEmpty <;> cases decide (L.getLast? = some (("try" : Str), ("" : Str))) <;> rfl
      · rw [if_neg e3, if_neg e3]
        by_cases e4 : hd r = "return"
        · rw [if_pos e4, if_pos e4]
          cases inS (prts L) "finally" <;> cases inS (prts L) "rescue" <;> rfl
        · rw [if_neg e4, if_neg e4]
          cases inS ["drain", "close"] (hd r) <;> cases resets L (hd r) <;> rfl
theorem sn_dl (bs : Bl) : sn bs.dropLast = (sn bs).dropLast := by unfold sn; exact List.map_dropLast
theorem nms_dl (L : LS) : nms L.dropLast = (nms L).dropLast := by unfold nms; exact List.map_dropLast
theorem rel_step {L : LS} {bs : Bl} (h : ∀ p ∈ L, VP p) (e : sn bs = nms L) {i : Nat} {r : Str} (hm : may L (hd r) = true) : (∀ p ∈ lstep L (hd r), VP p) ∧ sn (step i r bs) = nms (lstep L (hd r)) := by
  unfold lstep step
  by_cases e1 : inS OPN (hd r) = true
  · rw [if_pos e1, if_pos e1]
    refine ⟨fun p hp => ?_, ?_⟩
    · rcases List.mem_append.mp hp with hp | hp
      · exact h p hp
      · rw [List.mem_singleton.mp hp]
        exact ⟨inS_mem.mp e1, .inl rfl⟩
    · unfold sn nms at e ⊢
      rw [List.map_append, List.map_append, e]
      rfl
  · rw [if_neg e1, if_neg e1, mid_mdl]
    by_cases e2 : inS MDL (hd r) = true
    · rw [if_pos e2, if_pos e2]
      obtain ⟨m, hmid⟩ : ∃ m, mid (hd r) = some m := Option.isSome_iff_exists.mp (by rw [mid_mdl]; exact e2)
      obtain ⟨m1, m2, m3⟩ := mid_of hmid
      have hlast : L.getLast? = some (m, ("" : Str)) := by
        unfold may at hm
        rw [if_neg e1, if_pos e2, ← m1, Bool.and_eq_true, decide_eq_true_eq] at hm
        exact hm.2
      have hb : ∃ b, bs.getLast? = some b := by
        cases z : bs.getLast? with
        | some b => exact ⟨b, rfl⟩
        | none =>
          rw [List.getLast?_eq_none_iff] at z
          rw [z] at e
          have e : nms L = [] := e.symm
          have := nms_last L
          rw [e, hlast] at this
          cases this
      obtain ⟨b, hb⟩ := hb
      rw [hlast, hb]
      refine ⟨fun p hp => ?_, ?_⟩
      · rcases List.mem_append.mp hp with hp | hp
        · exact h p (List.dropLast_subset _ hp)
        · have : p = (m, hd r) := by simpa using hp
          rw [this]
          have hv := h _ (List.mem_of_getLast? hlast)
          refine ⟨hv.1, .inr ?_⟩
          by_cases z : hd r = "else"
          · rw [if_pos z] at m1
            exact .inl ⟨m1, z⟩
          · rw [if_neg z] at m1
            have := inS_mem.mp e2
            simp only [MDL, List.mem_cons, List.not_mem_nil, or_false] at this
            exact .inr ⟨m1, this.resolve_left z⟩
      · show sn (bs.dropLast ++ [(b.1, hd r)]) = nms (L.dropLast ++ [(m, hd r)])
        have a1 : sn (bs.dropLast ++ [(b.1, hd r)]) = sn bs.dropLast ++ [hd r] := by unfold sn; rw [List.map_append]; rfl
        have a2 : nms (L.dropLast ++ [(m, hd r)]) = nms L.dropLast ++ [hd r] := by
          unfold nms
          rw [List.map_append]
          have : nm (m, hd r) = hd r := if_neg m2
          simp [this]
        rw [a1, a2, sn_dl, nms_dl, e]
    · rw [if_neg e2, if_neg e2]
      by_cases e3 : hd r = "end"
      · rw [if_pos e3, if_pos e3, sn_dl, nms_dl, e]
        exact ⟨fun p hp => h p (List.dropLast_subset _ hp), rfl⟩
      · rw [if_neg e3, if_neg e3]
        exact ⟨h, e⟩
theorem ls_succ {rs : List Str} {i : Nat} {r : Str} (h : rs[i]? = some r) : lsAt rs (i + 1) = lstep (lsAt rs i) (hd r) := by
  show (match rs[i]? with | some r => lstep (lsAt rs i) (hd r) | none => lsAt rs i) = _
  rw [h]
def Mays (rs : List Str) (i : Nat) : Prop := ∀ j, j < i → ∀ r, rs[j]? = some r → may (lsAt rs j) (hd r) = true
def LBad (rs : List Str) (k : Nat) : Prop := Mays rs k ∧ ((∃ r, rs[k]? = some r ∧ may (lsAt rs k) (hd r) = false) ∨ (k = rs.length ∧ lsAt rs k ≠ []))
def LGood (rs : List Str) : Prop := Mays rs rs.length ∧ lsAt rs rs.length = []
theorem rel_at {rs : List Str} : ∀ {i : Nat}, i ≤ rs.length → Mays rs i → (∀ p ∈ lsAt rs i, VP p) ∧ sn (stAt rs i) = nms (lsAt rs i)
  | 0, _, _ => ⟨fun p hp => (by cases hp), rfl⟩
  | i + 1, hi, hm => by
    obtain ⟨h1, h2⟩ := rel_at (i := i) (by omega) fun j hj => hm j (by omega)
    have hr : rs[i]? = some rs[i] := List.getElem?_eq_getElem (by omega)
    rw [ls_succ hr, st_succ hr]
    exact rel_step h1 h2 (hm i (by omega) _ hr)
theorem notok_of {rs : List Str} (hw : ∀ r ∈ rs, wr r = true) {i : Nat} {r : Str} (hi : i ≤ rs.length) (hm : Mays rs i) (hr : rs[i]? = some r) : NotOk rs i ↔ may (lsAt rs i) (hd r) = false := by
  obtain ⟨h1, h2⟩ := rel_at hi hm
  have e := may_eq h1 (hw r (List.mem_of_getElem? hr))
  unfold NotOk
  rw [h2]
  constructor
  · rintro ⟨r', q1, q2⟩
    rw [hr] at q1
    cases q1
    rw [e] at q2
    simpa using q2
  · intro q
    exact ⟨r, hr, by rw [e, q]; rfl⟩
theorem mays_ok {rs : List Str} (hw : ∀ r ∈ rs, wr r = true) {i : Nat} (hi : i ≤ rs.length) (hm : Mays rs i) : ∀ j, j < i → ¬ NotOk rs j := fun j hj h => by
  obtain ⟨r, hr, q⟩ := id h
  have := (notok_of hw (Nat.le_trans (Nat.le_of_lt hj) hi) (fun k hk => hm k (by omega)) hr).mp h
  rw [hm j hj r hr] at this
  cases this
theorem bad_of {rs : List Str} (hw : ∀ r ∈ rs, wr r = true) {k : Nat} (h : LBad rs k) : Bad rs k := by
  obtain ⟨hm, h⟩ := h
  rcases h with ⟨r, hr, q⟩ | ⟨rfl, q⟩
  · have hk := Nat.le_of_lt (List.getElem?_eq_some_iff.mp hr).1
    exact ⟨mays_ok hw hk hm, .inl ((notok_of hw hk hm hr).mpr q)⟩
  · refine ⟨mays_ok hw (Nat.le_refl _) hm, .inr ⟨rfl, fun e => q ?_⟩⟩
    have := (rel_at (Nat.le_refl _) hm).2
    rw [e] at this
    cases z : lsAt rs rs.length with
    | nil => rfl
    | cons a l => rw [z] at this; cases this
theorem good_of {rs : List Str} (hw : ∀ r ∈ rs, wr r = true) (h : LGood rs) : Good rs := by
  obtain ⟨hm, h⟩ := h
  refine ⟨mays_ok hw (Nat.le_refl _) hm, ?_⟩
  have := (rel_at (Nat.le_refl _) hm).2
  rw [h] at this
  cases z : stAt rs rs.length with
  | nil => rfl
  | cons a l => rw [z] at this; cases this
theorem bad_inj {rs : List Str} {j k : Nat} (h1 : Bad rs j) (h2 : Bad rs k) : j = k := by
  have lt : ∀ {a b : Nat}, Bad rs a → Bad rs b → ¬ a < b := fun {a b} ha hb hab => by
    rcases ha.2 with q | ⟨q, _⟩
    · exact hb.1 a hab q
    · rcases hb.2 with ⟨r, z, _⟩ | ⟨z, _⟩
      · have := (List.getElem?_eq_some_iff.mp z).1
        omega
      · omega
  have := lt h1 h2
  have := lt h2 h1
  omega
theorem bad_good {rs : List Str} {k : Nat} (h1 : Bad rs k) (h2 : Good rs) : False := by
  rcases h1.2 with ⟨r, z, q⟩ | ⟨z, q⟩
  · exact h2.1 k (List.getElem?_eq_some_iff.mp z).1 ⟨r, z, q⟩
  · rw [z] at q
    exact q h2.2
end Fn

set_option Elab.async false
set_option linter.all false
set_option maxRecDepth 100000
set_option maxHeartbeats 2000000
/-! the rows that this law draws -/
namespace Fn
open PySem PySem.Spec PyProof.Rows L2 Ow ErX
def voc : List Str := ["each a", "each b", "maybe", "try", "shield", "retry 1", "retry 2", "retry 3", "else", "finally", "rescue", "end", "ask", "drain", "close", "return", "check"]
def shp : List Str → Bool
  | [w] => inS PLN w || inS SNG w
  | [a, b] => (decide (a = "each") && inS ["a", "b"] b) || (decide (a = "retry") && inS TRI b)
  | _ => false
def okV (r : Str) : Bool := decide (r.length ≤ 16) && (decide (((wds r).map (·.length)).sum + (wds r).length ≤ 64) && (decide (spc r = r) && (decide ((pt3 r).length ≤ 16) && (!(Txt.split r " ").isEmpty && (wr r && ((!Txt.startswith r "each " || (decide (((Txt.split r " ").map V.str)[1]? = some (.str (sec r))) && inS ["a", "b"] (sec r))) && (decide ((wds r)[0]? = some (hd r)) && (shp (wds r) && (r.cps.toList.all (fun c => decide (c < 128 ∧ c ≠ 10)) && PyData.strOk (hd r))))))))))
theorem voc_ok : ∀ r ∈ voc, okV r = true := by decide +kernel
structure Vo (r : Str) : Prop where
  raw : Raw r
  spc : spc r = r
  wr : wr r = true
  first : (wds r)[0]? = some (hd r)
  sh : shp (wds r) = true
  len : r.length ≤ 16
  cps : ∀ c ∈ r.cps.toList, c < 128 ∧ c ≠ 10
  lst : Txt.startswith r "each " = true → sec r = "a" ∨ sec r = "b"
  okh : PyData.strOk (hd r) = true
theorem vo_of {r : Str} (h : r ∈ voc) : Vo r := by
  have h := voc_ok r h
  unfold okV at h
  simp only [Bool.and_eq_true, decide_eq_true_eq, Bool.or_eq_true, Bool.not_eq_true', List.all_eq_true] at h
  obtain ⟨h1, h2, h3, h4, h5, h6, h7, h8, h9, h10, h11⟩ := h
  have l : r.length + 2 ≤ sizeLine := Nat.le_trans (m := 18) (by omega) (by decide)
  refine ⟨⟨l, ?_, ?_, ?_⟩, h3, h6, h8, h9, h1, h10, fun h => ?_, h11⟩
  · have : (" " : Str).length = 1 := by decide +kernel
    rw [this]
    omega
  · rw [h3]
    exact ⟨l, Nat.le_trans h4 (by decide), fun e => by rw [e] at h5; cases h5⟩
  · rw [h3]
    intro h
    rcases h7 with h7 | h7
    · rw [h] at h7; cases h7
    · exact h7.1
  · rcases h7 with h7 | h7
    · rw [h] at h7; cases h7
    · have := inS_mem.mp h7.2
      simpa using this
theorem nl_split {rows : List Str} (h : ∀ r ∈ rows, r ∈ voc) (hne : rows ≠ []) : Txt.split (Txt.join "\n" rows) "\n" = rows := by
  refine TL.split_join (s := 10) (S := []) (by decide +kernel) (by decide +kernel) hne fun p hp hm => ?_
  exact ((vo_of (h p hp)).cps 10 hm).2 rfl
theorem nl_len {rows : List Str} (h : ∀ r ∈ rows, r ∈ voc) (hl : rows.length ≤ 64) : (Txt.join "\n" rows).length + 2 ≤ sizeLine ∧ ((rows.map (·.length)).sum + rows.length * ("\n" : Str).length ≤ 16777216) := by
  have e1 : ("\n" : Str).length = 1 := by decide +kernel
  have hs : (rows.map (·.length)).sum ≤ 16 * rows.length := by
    clear hl
    induction rows with
    | nil => exact Nat.le_refl _
    | cons r rows ih =>
      have := ih fun q hq => h q (List.mem_cons_of_mem _ hq)
      have := (vo_of (h r (List.mem_cons_self ..))).len
      rw [List.map_cons, List.sum_cons, List.length_cons]
      omega
  have := PySem.StrLaws.join_length_le "\n" rows
  rw [TL.join_eq]
  rw [e1] at this ⊢
  refine ⟨Nat.le_trans (m := 2000) (by omega) (by decide), by omega⟩
theorem rows_same {rows : List Str} (h : ∀ r ∈ rows, r ∈ voc) : rows.map spc = rows := by
  induction rows with
  | nil => rfl
  | cons r rows ih =>
    rw [List.map_cons, (vo_of (h r (List.mem_cons_self ..))).spc, ih fun q hq => h q (List.mem_cons_of_mem _ hq)]
theorem rowsOf_join {rows : List Str} (h : ∀ r ∈ rows, r ∈ voc) (hne : rows ≠ []) : rowsOf (Txt.join "\n" rows) = rows := by
  unfold rowsOf
  rw [nl_split h hne, rows_same h]
theorem few_lists {rows ys : List Str} (h : ∀ r ∈ rows, r ∈ voc) (hL : Lists rows ys) : ys.length ≤ 3 := by
  obtain ⟨_, hn, hm⟩ := hL
  have hs : ys ⊆ [("a" : Str), "b"] := fun z hz => by
    obtain ⟨r, hr, rfl⟩ := List.mem_map.mp ((hm z).mp hz)
    obtain ⟨hr, hst⟩ := List.mem_filter.mp hr
    rcases (vo_of (h r hr)).lst hst with e | e <;> rw [e] <;> simp
  match ys, hn, hs with
  | [], _, _ => exact Nat.zero_le _
  | [_], _, _ => exact (by decide : 1 ≤ 3)
  | [_, _], _, _ => exact (by decide : 2 ≤ 3)
  | x :: y :: z :: l, hn, hs =>
    exfalso
    have hx := hs (List.mem_cons_self ..)
    have hy := hs (List.mem_cons_of_mem _ (List.mem_cons_self ..))
    have hz := hs (List.mem_cons_of_mem _ (List.mem_cons_of_mem _ (List.mem_cons_self ..)))
    simp only [List.mem_cons, List.not_mem_nil, or_false] at hx hy hz
    simp only [List.nodup_cons, List.mem_cons, not_or] at hn
    obtain ⟨⟨n1, n2, _⟩, ⟨n3, _⟩, _⟩ := hn
    rcases hx with hx | hx <;> rcases hy with hy | hy <;> rcases hz with hz | hz <;> subst hx hy hz <;> first | exact n1 rfl | exact n2 rfl | exact n3 rfl
/-- two texts in a pair -/
def TwoAt (H : Hp) (v : V) (p : Str × Str) : Prop := ∃ a, v = .ref a ∧ H a = some (.tup [.str p.1, .str p.2])
theorem TwoAt.same {H H' : Hp} {v : V} {p : Str × Str} (h : TwoAt H v p) (s : Same H H') : TwoAt H' v p := by
  obtain ⟨a, e, h⟩ := h
  exact ⟨a, e, s _ _ h⟩
theorem two_same {H H' : Hp} {xs : List V} {L : LS} (h : Paired (TwoAt H) xs L) (s : Same H H') : Paired (TwoAt H') xs L := paired_map (fun _ _ q => TwoAt.same q s) h
def StkAt (H : Hp) (o : Addr) (L : LS) : Prop := ∃ xs, H o = some (.lst xs) ∧ Paired (TwoAt H) xs L
theorem StkAt.same {H H' : Hp} {o : Addr} {L : LS} (h : StkAt H o L) (s : Same H H') : StkAt H' o L := by
  obtain ⟨xs, h1, h2⟩ := h
  exact ⟨xs, s _ _ h1, two_same h2 s⟩
def dat2 (L : LS) : List PyData := L.map fun p => .tuple [.str p.1, .str p.2]
theorem dp_two {K : PySem.W.Frag} {H : Hp} {v : V} {p : Str × Str} (h : TwoAt H v p) : Dp K H v (.tuple [.str p.1, .str p.2]) := by
  obtain ⟨a, rfl, h⟩ := h
  exact .tup (SqT.of h) (.cons (.str _) (.cons (.str _) .nil))
theorem dpAll_2 {K : PySem.W.Frag} {H : Hp} : ∀ {xs : List V} {L : LS}, Paired (TwoAt H) xs L → DpAll K H xs (dat2 L)
  | _, _, .nil => .nil
  | _, _, .cons h t => .cons (dp_two h) (dpAll_2 t)
/-- texts that may be compared -/
def Ok2 (L : LS) : Prop := ∀ p ∈ L, PyData.strOk p.1 = true ∧ PyData.strOk p.2 = true
theorem can_2 : ∀ {L : LS}, Ok2 L → PyData.canLayAll0 (dat2 L) = true
  | [], _ => rfl
  | p :: L, h => by
    have hp := h p (List.mem_cons_self ..)
    have ih := can_2 (L := L) fun q hq => h q (List.mem_cons_of_mem _ hq)
    show ((PyData.strOk p.1 && (PyData.strOk p.2 && true)) && PyData.canLayAll0 (dat2 L)) = true
    rw [hp.1, hp.2, ih]
    rfl
theorem depth_2 : ∀ (L : LS), PyData.depthAll (dat2 L) ≤ 1
  | [] => Nat.zero_le _
  | p :: L => by
    have ih := depth_2 L
    show max (PyData.depth (.tuple [.str p.1, .str p.2])) (PyData.depthAll (dat2 L)) ≤ 1
    have : PyData.depth (.tuple [.str p.1, .str p.2]) = 1 := rfl
    omega
theorem shaped2 {L : LS} (h : Ok2 L) : SeqAt.shaped (.list (dat2 L)) = true := by
  have h1 : PyData.canLay0 (.list (dat2 L)) = true := can_2 h
  have h2 := depth_2 L
  unfold SeqAt.shaped
  rw [h1, Bool.true_and, decide_eq_true_eq]
  show PyData.depthAll (dat2 L) + 1 ≤ 64
  omega
theorem shapedP {p : Str × Str} (h : PyData.strOk p.1 = true ∧ PyData.strOk p.2 = true) : SeqAt.shaped (.tuple [.str p.1, .str p.2]) = true := by
  have h1 : PyData.canLay0 (.tuple [.str p.1, .str p.2]) = true := by
    show (PyData.strOk p.1 && (PyData.strOk p.2 && true)) = true
    rw [h.1, h.2]
    rfl
  unfold SeqAt.shaped
  rw [h1, Bool.true_and, decide_eq_true_eq]
  exact (show (0 : Nat) + 1 ≤ 64 by decide)
theorem eqv2_nil (L : LS) : PyData.eqv (.list (dat2 L)) (.list []) = L.isEmpty := by cases L <;> rfl
theorem eqvP (p q : Str × Str) : PyData.eqv (.tuple [.str p.1, .str p.2]) (.tuple [.str q.1, .str q.2]) = decide (p = q) := by
  obtain ⟨a, b⟩ := p
  obtain ⟨c, d⟩ := q
  have : PyData.eqv (.tuple [.str a, .str b]) (.tuple [.str c, .str d]) = ((a == c) && ((b == d) && true)) := rfl
  rw [this, Bool.eq_iff_iff]
  simp
theorem vp_ok {p : Str × Str} (h : VP p) : PyData.strOk p.1 = true ∧ PyData.strOk p.2 = true := by
  rcases vp_cases h with h | h | h | h | h | h | h | h <;> subst h <;> decide +kernel
def spLRow : Sp := fun vs H Q _ => ∃ (p : Addr) (ws : List Str), vs = [.ref p] ∧ H p = some (.lst (ws.map V.str)) ∧ shp ws = true ∧ ∀ H', Same H H' → Q (.bl true) H'
def spResets : Sp := fun vs H Q _ => ∃ (o : Addr) (L : LS) (z : Str), vs = [.ref o, .str z] ∧ StkAt H o L ∧ L.length ≤ 64 ∧ ∀ H', Same H H' → Q (.bl (resets L z)) H'
def spMay : Sp := fun vs H Q _ => ∃ (o : Addr) (L : LS) (z : Str), vs = [.ref o, .str z] ∧ StkAt H o L ∧ L.length ≤ 64 ∧ (∀ p ∈ L, VP p) ∧ ∀ H', Same H H' → Q (.bl (may L z)) H'
def spFirst (K : PySem.W.Frag) : Sp := fun vs H Q _ => ∃ (p : Addr) (rows : List Str), vs = [.ref p] ∧ SqL K H p (rows.map V.str) ∧ rows.length ≤ 24 ∧ (∀ r ∈ rows, r ∈ voc) ∧ (∀ k, LBad rows k → ∀ H', Same H H' → Q (.int (k : Nat)) H') ∧ (LGood rows → ∀ H', Same H H' → Q .non H')
def spWrg (K : PySem.W.Frag) : Sp := fun vs H Q _ => ∃ (p : Addr) (rows : List Str), vs = [.ref p] ∧ SqL K H p (rows.map V.str) ∧ rows.length ≤ 24 ∧ rows ≠ [] ∧ (∀ r ∈ rows, r ∈ voc) ∧ (∀ k, Bad rows k → ∀ H', Same H H' → Q (.int (k : Nat)) H') ∧ (Good rows → ∀ H', Same H H' → Q .non H')
/-- a list of this law's rows, drawn -/
def spDraw : Sp := fun vs H Q _ => ∃ (b : Addr) (n : Nat), vs = [.ref b] ∧ BagAt H b n ∧ n < 800000000 ∧ ∀ (p : Addr) (rows : List Str) (m : Nat) H', (∀ r ∈ rows, r ∈ voc) → rows.length ≤ 24 → m ≤ n + 200 → H p = none → H' p = some (.lst (rows.map V.str)) → BagAt H' b m → Stay b H H' → Q (.ref p) H'
def spFLen (C : Addr) : Sp := fun vs H Q _ => ∃ (p dx : Addr) (rs ys : List Str), vs = [.ref p] ∧ FnIn C H p rs ys dx ∧ ∀ H', Same H H' → Q (.int (rs.length : Nat)) H'
end Fn

set_option Elab.async false
set_option linter.all false
set_option maxRecDepth 100000
set_option maxHeartbeats 2000000
/-! rows of drawn functions, and rows that are put into them: each x of any name, and a finite lot -/
namespace Fn
open PySem PySem.Spec PyProof.Rows L2 Ow ErX
/-- what the law says of the words of a row -/
def lrow : List Str → Bool
  | [w] => inS PLN w || inS SNG w
  | [a, b] => (decide (a = "each") && isLc b.cps.toList) || (decide (a = "retry") && inS TRI b)
  | _ => false
structure VR (r : Str) : Prop where
  raw : Raw r
  len : r.length ≤ 16
  cps : ∀ c ∈ r.cps.toList, c < 128 ∧ c ≠ 10
  sh : lrow (wds r) = wr (spc r)
  first : wr (spc r) = true → (wds r)[0]? = some (hd (spc r))
  okh : PyData.strOk (hd (spc r)) = true
  five : decide (V.str (cutS r none (some 5)) = V.str "each ") = Txt.startswith r "each "
  est : wr (spc r) = true → Txt.startswith (spc r) "each " = Txt.startswith r "each "
  wl : ∀ y ∈ wds r, y.length ≤ 64
  two : Txt.startswith r "each " = true → ∃ y, ((Txt.split r " ").map V.str)[1]? = some (.str y) ∧ (wr (spc r) = true → y = sec (spc r))
theorem len_sum {l : List Str} {y : Str} (h : y ∈ l) : y.length ≤ (l.map (·.length)).sum := by
  induction l with
  | nil => cases h
  | cons a l ih =>
    rw [List.map_cons, List.sum_cons]
    rcases List.mem_cons.mp h with h | h
    · rw [h]; omega
    · have := ih h; omega
def okR (r : Str) : Bool := decide (r.length ≤ 16) && (decide (((wds r).map (·.length)).sum + (wds r).length ≤ 64) && (decide ((spc r).length ≤ 16) && (decide ((pt3 (spc r)).length ≤ 16) && (!(Txt.split (spc r) " ").isEmpty && ((!Txt.startswith (spc r) "each " || decide (((Txt.split (spc r) " ").map V.str)[1]? = some (.str (sec (spc r))))) && ((lrow (wds r) == wr (spc r)) && ((!wr (spc r) || decide ((wds r)[0]? = some (hd (spc r)))) && (r.cps.toList.all (fun c => decide (c < 128 ∧ c ≠ 10)) && (PyData.strOk (hd (spc r)) && ((decide (V.str (cutS r none (some 5)) = V.str "each ") == Txt.startswith r "each ") && ((!wr (spc r) || (Txt.startswith (spc r) "each " == Txt.startswith r "each ")) && (!Txt.startswith r "each " || (match (Txt.split r " ")[1]? with | some y => !wr (spc r) || decide (y = sec (spc r)) | none => false)))))))))))))
/-- the rows of drawn functions but for those of lists -/
def DVOC : List Str := ["ask", "begin", "finish", "read", "head", "body", "pause", "check", "drain", "close", "return", "maybe", "try", "shield", "else", "finally", "rescue", "end", "retry 1", "retry 2", "retry 3"]
def ODD : List Str := ["", " ", "ASK", "reads", "each", "each abcd", "each A", "each a b", "retry", "retry 0", "retry 4", "ask ask", "end end", "else:", "return 1", "each a1", "retry a", "maybe a", "  read ", "try try", "not", "retry 02"]
def EWD : List Str := ["drain", "close", "return", "each a", "each b", "retry 2", "retry 3", "maybe", "try", "shield", "else", "finally", "rescue", "end", "end", "check", "ask", "body"]
theorem kv_ok : ∀ r ∈ DVOC ++ (ODD ++ EWD), okR r = true := by decide +kernel
theorem dv_wr : ∀ r ∈ DVOC, wr r = true ∧ spc r = r := by decide +kernel
def RK (r : Str) : Prop := r ∈ DVOC ++ (ODD ++ EWD) ∨ ∃ x : Str, isLc x.cps.toList = true ∧ r = ("each " : Str) ++ x
theorem vr_fin {r : Str} (h : r ∈ DVOC ++ (ODD ++ EWD)) : VR r := by
  have h := kv_ok r h
  unfold okR at h
  simp only [Bool.and_eq_true, decide_eq_true_eq, Bool.or_eq_true, Bool.not_eq_true', List.all_eq_true, beq_iff_eq] at h
  obtain ⟨h1, h2, h3, h4, h5, h6, h7, h8, h9, h10, h11, h12, h13⟩ := h
  have l : r.length + 2 ≤ sizeLine := Nat.le_trans (m := 18) (by omega) (by decide)
  refine ⟨⟨l, ?_, ⟨Nat.le_trans (m := 18) (by omega) (by decide), Nat.le_trans h4 (by decide), fun e => by rw [e] at h5; cases h5⟩, ?_⟩, h1, h9, h7, fun h => ?_, h10, h11, fun h => ?_, fun y hy => by have := len_sum hy; omega, fun h => ?_⟩
  · have : (" " : Str).length = 1 := by decide +kernel
    rw [this]
    omega
  · intro h
    rcases h6 with h6 | h6
    · rw [h] at h6; cases h6
    · exact h6
  · rcases h8 with h8 | h8
    · rw [h] at h8; cases h8
    · exact h8
  · rcases h12 with h12 | h12
    · rw [h] at h12; cases h12
    · exact h12
  · rcases h13 with h13 | h13
    · rw [h] at h13; cases h13
    · rw [List.getElem?_map]
      cases e : (Txt.split r " ")[1]? with
      | none => rw [e] at h13; cases h13
      | some y =>
        rw [e] at h13
        refine ⟨y, rfl, fun hw => ?_⟩
        have h13 : (!wr (spc r) || decide (y = sec (spc r))) = true := h13
        rw [hw] at h13
        exact of_decide_eq_true h13
theorem each_start (x : Str) : Txt.startswith (("each " : Str) ++ x) "each " = true := by
  have la : ("each " : Str).cps.toList.length = ("each " : Str).length := Array.length_toList
  have s : Builtin.Str.subAt (("each " : Str) ++ x) "each " 0 = true := by
    rw [StrLaws.subAt_eq]
    show (((TL.tl (("each " : Str) ++ x)).drop 0).take _ == _) = true
    rw [TL.tl_append, List.drop_zero, ← la, List.take_left]
    exact beq_self_eq_true _
  unfold PySem.Txt.startswith
  rw [s, Bool.and_true]
  exact decide_eq_true (by rw [PySem.Str.length_append]; omega)
theorem each_five (x : Str) : cutS (("each " : Str) ++ x) none (some 5) = "each " ∧ cutS (("each " : Str) ++ x) (some 5) none = x := by
  have e1 : (TL.tl ("each " : Str)).length = 5 := by decide +kernel
  have l5 : ("each " : Str).length = 5 := by decide +kernel
  have hl : 5 ≤ (("each " : Str) ++ x).length := by rw [PySem.Str.length_append, l5]; omega
  have hm : min 5 (("each " : Str) ++ x).length = 5 := Nat.min_eq_left hl
  constructor
  · refine TL.ext_tl ?_
    show ((TL.tl (("each " : Str) ++ x)).drop (HT.sIx _ 0 none)).take (HT.sIx _ _ (some ((5 : Nat) : Int)) - HT.sIx _ 0 none) = _
    rw [HT.sIx_none, HT.sIx_nat, hm, List.drop_zero, Nat.sub_zero, TL.tl_append, List.take_append_of_le_length (by rw [e1]; exact Nat.le_refl _), List.take_of_length_le (by rw [e1]; exact Nat.le_refl _)]
  · refine TL.ext_tl ?_
    show ((TL.tl (("each " : Str) ++ x)).drop (HT.sIx _ 0 (some ((5 : Nat) : Int)))).take (HT.sIx _ _ none - HT.sIx _ 0 (some ((5 : Nat) : Int))) = _
    rw [HT.sIx_none, HT.sIx_nat, hm, TL.tl_append, List.drop_append_of_le_length (by rw [e1]; exact Nat.le_refl _), List.drop_of_length_le (by rw [e1]; exact Nat.le_refl _), List.nil_append, List.take_of_length_le (by
      rw [PySem.Str.length_append, l5, TL.len_tl]
      omega)]
theorem each_cps {x : Str} (h : isLc x.cps.toList = true) : ∀ c ∈ (("each " : Str) ++ x).cps.toList, c < 128 ∧ c ≠ 10 := fun c hc => by
  have hc : c ∈ TL.tl (("each " : Str) ++ x) := hc
  rw [TL.tl_append, List.mem_append] at hc
  rcases hc with hc | hc
  · have : ∀ c ∈ TL.tl ("each " : Str), c < 128 ∧ c ≠ 10 := by decide +kernel
    exact this c hc
  · have := (lc_cps h).1 c hc
    omega
theorem vr_each {x : Str} (h : isLc x.cps.toList = true) : VR (("each " : Str) ++ x) := by
  obtain ⟨w1, w2, w3, w4, w5⟩ := each_row h
  obtain ⟨_, l1, l3⟩ := lc_cps h
  have hs := each_split h
  have l5 : ("each " : Str).length = 5 := by decide +kernel
  have l4 : ("each" : Str).length = 4 := by decide +kernel
  have hl : (("each " : Str) ++ x).length ≤ 8 := by rw [PySem.Str.length_append, l5]; omega
  have l : (("each " : Str) ++ x).length + 2 ≤ sizeLine := Nat.le_trans (m := 18) (by omega) (by decide)
  refine ⟨⟨l, ?_, ?_, ?_⟩, by omega, each_cps h, ?_, fun _ => ?_, ?_, ?_, fun _ => by rw [w2], fun y hy => ?_, fun _ => ?_⟩
  · have : (" " : Str).length = 1 := by decide +kernel
    rw [this, w1, List.map_cons, List.map_cons, List.map_nil, List.sum_cons, List.sum_cons, List.sum_nil, l4]
    show _ + 2 * 1 ≤ _
    omega
  · rw [w2]
    exact ⟨l, by rw [(each_part h).2]; exact Nat.le_trans l3 (by decide), by rw [hs]; simp⟩
  · rw [w2, w4, hs]
    exact fun _ => rfl
  · rw [w1, w2, w5]
    show ((decide (("each" : Str) = "each") && isLc x.cps.toList) || _) = true
    rw [h]
    rfl
  · rw [w1, w2, w3]; rfl
  · rw [w2, w3]; decide +kernel
  · rw [(each_five x).1, each_start]
    exact decide_eq_true rfl
  · rw [w1] at hy
    rcases List.mem_cons.mp hy with hy | hy
    · rw [hy, l4]; decide
    · rw [List.mem_singleton.mp hy]; omega
  · rw [w2, w4, hs]
    exact ⟨x, rfl, fun _ => rfl⟩
theorem vr_of {r : Str} (h : RK r) : VR r := by
  rcases h with h | ⟨x, hx, rfl⟩
  · exact vr_fin h
  · exact vr_each hx
/-- rows of a drawn function whose lists have the names ns -/
def DRow (ns : List Str) (r : Str) : Prop := r ∈ DVOC ∨ ∃ x ∈ ns, isLc x.cps.toList = true ∧ r = ("each " : Str) ++ x
theorem drow_rk {ns : List Str} {r : Str} (h : DRow ns r) : RK r := by
  rcases h with h | ⟨x, _, hx, e⟩
  · exact .inl (List.mem_append_left _ h)
  · exact .inr ⟨x, hx, e⟩
theorem drow_wr {ns : List Str} {r : Str} (h : DRow ns r) : wr r = true ∧ spc r = r := by
  rcases h with h | ⟨x, _, hx, rfl⟩
  · exact dv_wr r h
  · exact ⟨(each_row hx).2.2.2.2, (each_row hx).2.1⟩
theorem rk_odd : (∀ r ∈ ODD, RK r) ∧ (∀ r ∈ EWD, RK r) := ⟨fun r h => .inl (List.mem_append_right _ (List.mem_append_left _ h)), fun r h => .inl (List.mem_append_right _ (List.mem_append_right _ h))⟩
theorem rk_split {rows : List Str} (h : ∀ r ∈ rows, RK r) (hne : rows ≠ []) : Txt.split (Txt.join "\n" rows) "\n" = rows := by
  refine TL.split_join (s := 10) (S := []) (by decide +kernel) (by decide +kernel) hne fun p hp hm => ?_
  exact ((vr_of (h p hp)).cps 10 hm).2 rfl
theorem rk_len {rows : List Str} (h : ∀ r ∈ rows, RK r) (hl : rows.length ≤ 64) : (Txt.join "\n" rows).length + 2 ≤ sizeLine ∧ ((rows.map (·.length)).sum + rows.length * ("\n" : Str).length ≤ 16777216) := by
  have e1 : ("\n" : Str).length = 1 := by decide +kernel
  have hs : (rows.map (·.length)).sum ≤ 16 * rows.length := by
    clear hl
    induction rows with
    | nil => exact Nat.le_refl _
    | cons r rows ih =>
      have := ih fun q hq => h q (List.mem_cons_of_mem _ hq)
      have := (vr_of (h r (List.mem_cons_self ..))).len
      rw [List.map_cons, List.sum_cons, List.length_cons]
      omega
  have := PySem.StrLaws.join_length_le "\n" rows
  rw [TL.join_eq]
  rw [e1] at this ⊢
  refine ⟨Nat.le_trans (m := 2000) (by omega) (by decide), by omega⟩
theorem rk_rows {rows : List Str} (h : ∀ r ∈ rows, RK r) (hne : rows ≠ []) : rowsOf (Txt.join "\n" rows) = rows.map spc := by
  unfold rowsOf
  rw [rk_split h hne]
theorem drow_same {ns rows : List Str} (h : ∀ r ∈ rows, DRow ns r) : rows.map spc = rows := by
  induction rows with
  | nil => rfl
  | cons r rows ih =>
    rw [List.map_cons, (drow_wr (h r (List.mem_cons_self ..))).2, ih fun q hq => h q (List.mem_cons_of_mem _ hq)]
theorem nodup_le {ys ns : List Str} (hn : ys.Nodup) (hs : ∀ y ∈ ys, y ∈ ns) : ys.length ≤ ns.length := by
  induction ys generalizing ns with
  | nil => exact Nat.zero_le _
  | cons y ys ih =>
    obtain ⟨n1, n2⟩ := List.nodup_cons.mp hn
    have hy := hs y (List.mem_cons_self ..)
    have := ih (ns := ns.erase y) n2 fun z hz => (List.mem_erase_of_ne (fun e => n1 (by rw [← e]; exact hz))).mpr (hs z (List.mem_cons_of_mem _ hz))
    rw [List.length_erase_of_mem hy] at this
    have h0 : 0 < ns.length := List.length_pos_of_mem hy
    rw [List.length_cons]
    omega
theorem drow_lists {ns rows ys : List Str} (h : ∀ r ∈ rows, DRow ns r) (hL : Lists rows ys) : ys.length ≤ ns.length := by
  obtain ⟨_, hn, hm⟩ := hL
  refine nodup_le hn fun z hz => ?_
  obtain ⟨r, hr, rfl⟩ := List.mem_map.mp ((hm z).mp hz)
  obtain ⟨hr, hst⟩ := List.mem_filter.mp hr
  rcases h r hr with e | ⟨x, hx, hl, rfl⟩
  · exact absurd hst (by
      have : ∀ r ∈ DVOC, ¬ Txt.startswith r "each " = true := by decide +kernel
      exact this r e)
  · rw [(each_row hl).2.2.2.1]
    exact hx
end Fn

set_option Elab.async false
set_option linter.all false
set_option maxRecDepth 100000
set_option maxHeartbeats 1000000
/-! Function(thing), the thing no text; two promises of one def -/
namespace Fn
open PySem PySem.Spec PyProof.Rows L2 Ow ErX
/-- a thing that is no text -/
def NoStr (K : PySem.W.Frag) (H : Hp) (v : V) : Prop := ∃ t, TyX K H v t ∧ PySem.W.kitOne K t (.type "str") = some false
def spFOdd (K : PySem.W.Frag) (C CB : Addr) : Sp := fun vs H Q E => ∃ (x dx : Addr) (v : V), vs = [.ref x, v] ∧ H x = some (.ins C dx []) ∧ NoStr K H v ∧ ∀ d' H', H d' = none → H' d' = some (.xd [("row", .int (-1))]) → Stay x H H' → E (.ref CB) (some d') H'
def spOr (a b : Sp) : Sp := fun vs H Q E => a vs H Q E ∨ b vs H Q E
theorem fn_or {P : Program} {w : World} {K : PySem.W.Frag} {mg : Str → Option Value} {base : Heap} {CX : CXT} {k : Nat} {f : Addr} {fd : FuncData} {ps : List Str} {a b : Sp} (F : FnOk P w K mg base CX k f fd ps a) (G : FnOk P w K mg base CX k f fd ps b) : FnOk P w K mg base CX k f fd ps (spOr a b) where
  len := fun vs H Q E h => h.elim (F.len vs H Q E) (G.len vs H Q E)
  run := fun A outer s H args us vs Q E hr e0 hb hv h => h.elim (F.run A outer s H args us vs Q E hr e0 hb hv) (G.run A outer s H args us vs Q E hr e0 hb hv)
end Fn

set_option Elab.async false
set_option linter.all false
set_option maxRecDepth 100000
set_option maxHeartbeats 2000000
/-! the rows that k16 draws -/
namespace Fn
open PySem PySem.Spec PyProof.Rows L2 Ow ErX
def EA6 : List Str := ["each a", "each b", "each ab", "each abc", "each zzz", "each c"]
def voc6 : List Str := ["", "what", "end", "ask", "pause", "each", "each a", "each b", "each ab", "each abc", "each zzz", "each c"]
def NM6 : List Str := ["a", "b", "ab", "abc", "zzz", "c"]
def okV6 (r : Str) : Bool := decide (r.length ≤ 16) && (decide (((wds r).map (·.length)).sum + (wds r).length ≤ 64) && (decide (spc r = r) && (decide ((pt3 r).length ≤ 16) && (!(Txt.split r " ").isEmpty && ((!Txt.startswith r "each " || (decide (((Txt.split r " ").map V.str)[1]? = some (.str (sec r))) && inS NM6 (sec r))) && (r.cps.toList.all (fun c => decide (c < 128 ∧ c ≠ 10))))))))
theorem voc6_ok : ∀ r ∈ voc6, okV6 r = true := by decide +kernel
structure Vo6 (r : Str) : Prop where
  raw : Raw r
  spc : spc r = r
  len : r.length ≤ 16
  cps : ∀ c ∈ r.cps.toList, c < 128 ∧ c ≠ 10
  lst : Txt.startswith r "each " = true → sec r ∈ NM6
theorem vo6_of {r : Str} (h : r ∈ voc6) : Vo6 r := by
  have h := voc6_ok r h
  unfold okV6 at h
  simp only [Bool.and_eq_true, decide_eq_true_eq, Bool.or_eq_true, Bool.not_eq_true', List.all_eq_true] at h
  obtain ⟨h1, h2, h3, h4, h5, h6, h7⟩ := h
  have l : r.length + 2 ≤ sizeLine := Nat.le_trans (m := 18) (by omega) (by decide)
  refine ⟨⟨l, ?_, ?_, ?_⟩, h3, h1, h7, fun h => ?_⟩
  · have : (" " : Str).length = 1 := by decide +kernel
    rw [this]
    omega
  · rw [h3]
    exact ⟨l, Nat.le_trans h4 (by decide), fun e => by rw [e] at h5; cases h5⟩
  · rw [h3]
    intro h
    rcases h6 with h6 | h6
    · rw [h] at h6; cases h6
    · exact h6.1
  · rcases h6 with h6 | h6
    · rw [h] at h6; cases h6
    · exact inS_mem.mp h6.2
theorem nl6_split {rows : List Str} (h : ∀ r ∈ rows, r ∈ voc6) (hne : rows ≠ []) : Txt.split (Txt.join "\n" rows) "\n" = rows := by
  refine TL.split_join (s := 10) (S := []) (by decide +kernel) (by decide +kernel) hne fun p hp hm => ?_
  exact ((vo6_of (h p hp)).cps 10 hm).2 rfl
theorem nl6_len {rows : List Str} (h : ∀ r ∈ rows, r ∈ voc6) (hl : rows.length ≤ 64) : (Txt.join "\n" rows).length + 2 ≤ 2000 ∧ ((rows.map (·.length)).sum + rows.length * ("\n" : Str).length ≤ 16777216) := by
  have e1 : ("\n" : Str).length = 1 := by decide +kernel
  have hs : (rows.map (·.length)).sum ≤ 16 * rows.length := by
    clear hl
    induction rows with
    | nil => exact Nat.le_refl _
    | cons r rows ih =>
      have := ih fun q hq => h q (List.mem_cons_of_mem _ hq)
      have := (vo6_of (h r (List.mem_cons_self ..))).len
      rw [List.map_cons, List.sum_cons, List.length_cons]
      omega
  have := PySem.StrLaws.join_length_le "\n" rows
  rw [TL.join_eq]
  rw [e1] at this ⊢
  refine ⟨by omega, by omega⟩
theorem rows6_same {rows : List Str} (h : ∀ r ∈ rows, r ∈ voc6) : rows.map spc = rows := by
  induction rows with
  | nil => rfl
  | cons r rows ih =>
    rw [List.map_cons, (vo6_of (h r (List.mem_cons_self ..))).spc, ih fun q hq => h q (List.mem_cons_of_mem _ hq)]
theorem rowsOf6 {rows : List Str} (h : ∀ r ∈ rows, r ∈ voc6) (hne : rows ≠ []) : rowsOf (Txt.join "\n" rows) = rows := by
  unfold rowsOf
  rw [nl6_split h hne, rows6_same h]
theorem joinL_nl (S : List Nat) : ∀ {ps : List (List Nat)}, ps ≠ [] → TL.joinL S (ps ++ [[]]) = TL.joinL S ps ++ S
  | [], h => absurd rfl h
  | [p], _ => by
    show p ++ (S ++ []) = p ++ S
    rw [List.append_nil]
  | p :: q :: l, _ => by
    have ih := joinL_nl S (ps := q :: l) (by simp)
    show p ++ (S ++ TL.joinL S (q :: (l ++ [[]]))) = p ++ (S ++ TL.joinL S (q :: l)) ++ S
    rw [show q :: (l ++ [[]]) = (q :: l) ++ [[]] from rfl, ih]
    simp
theorem join_nl {rows : List Str} (h : rows ≠ []) : Txt.join "\n" rows ++ ("\n" : Str) = Txt.join "\n" (rows ++ [("" : Str)]) := by
  refine TL.ext_tl ?_
  rw [TL.join_eq, TL.join_eq, TL.tl_append, TL.tl_join, TL.tl_join, List.map_append]
  rw [show List.map TL.tl [("" : Str)] = [[]] from rfl, joinL_nl _ (fun e => h (List.map_eq_nil_iff.mp e))]
/-! ### flat rows -/
def FL : List Str := ["", "what", "end", "ask"]
theorem flat_facts : isW "ask" [] = false ∧ (∀ r ∈ FL, r ≠ "ask" → isW r [] = true) ∧ hd "ask" = "ask" ∧ (∀ r ∈ FL, r ∈ voc6) := by decide +kernel
theorem step_ask (i : Nat) : step i "ask" [] = [] := by
  unfold step
  rw [if_neg (by decide +kernel), if_neg (by decide +kernel), if_neg (by decide +kernel)]
theorem flat_st {rows : List Str} : ∀ {k : Nat}, (∀ j, j < k → rows[j]? = some "ask") → stAt rows k = []
  | 0, _ => rfl
  | k + 1, h => by
    have ih := flat_st (rows := rows) (k := k) fun j hj => h j (by omega)
    rw [st_succ (h k (by omega)), ih, step_ask]
theorem flat_ok {rows : List Str} {k : Nat} (h : ∀ j, j < k → rows[j]? = some "ask") : ∀ j, j < k → ¬ NotOk rows j := by
  rintro j hj ⟨r, hr, hw⟩
  rw [h j hj] at hr
  cases hr
  rw [flat_st (k := j) fun i hi => h i (by omega)] at hw
  have := flat_facts.1
  unfold sn at hw
  rw [List.map_nil, this] at hw
  cases hw
theorem flat_bad {rows : List Str} (hF : ∀ r ∈ rows, r ∈ FL) {k : Nat} (h : ∀ j, j < k → rows[j]? = some "ask") {r : Str} (hr : rows[k]? = some r) (hn : r ≠ "ask") : Bad rows k := by
  refine ⟨flat_ok h, .inl ⟨r, hr, ?_⟩⟩
  rw [flat_st h]
  exact flat_facts.2.1 r (hF r (List.mem_of_getElem? hr)) hn
theorem flat_good {rows : List Str} (h : ∀ j, j < rows.length → rows[j]? = some "ask") : Good rows := ⟨flat_ok h, flat_st h⟩
/-! ### blocks one behind another -/
/-- m blocks of a list each -/
def Blk (rows : List Str) (m : Nat) : Prop := ∀ i, i < m → (∃ x ∈ EA6, rows[2 * i]? = some x) ∧ rows[2 * i + 1]? = some "end"
theorem blk_facts : (∀ x ∈ EA6, isW x [] = false ∧ inS OPN (hd x) = true ∧ hd x = "each") ∧ isW "end" ["each"] = false ∧ isW "pause" [] = false ∧ isW "end" [] = true ∧ isW "each" [] = true ∧ (∀ x ∈ EA6, x ∈ voc6) := by decide +kernel
theorem step_each (i : Nat) {x : Str} (h : x ∈ EA6) : step i x [] = [(i, ("each" : Str))] := by
  obtain ⟨_, h1, h2⟩ := blk_facts.1 x h
  unfold step
  rw [if_pos h1, h2]
  rfl
theorem step_end (i j : Nat) : step i "end" [(j, ("each" : Str))] = [] := by
  unfold step
  rw [if_neg (by decide +kernel), if_neg (by decide +kernel), if_pos (by decide +kernel)]
  rfl
theorem step_pause (i : Nat) : step i "pause" [] = [] := by
  unfold step
  rw [if_neg (by decide +kernel), if_neg (by decide +kernel), if_neg (by decide +kernel)]
theorem blk_st {rows : List Str} {m : Nat} (h : Blk rows m) : ∀ {i : Nat}, i ≤ m → stAt rows (2 * i) = [] ∧ ∀ j, j < 2 * i → ¬ NotOk rows j
  | 0, _ => ⟨rfl, fun j hj => absurd hj (Nat.not_lt_zero j)⟩
  | i + 1, hi => by
    obtain ⟨h1, h2⟩ := blk_st h (i := i) (by omega)
    obtain ⟨⟨x, hx, g1⟩, g2⟩ := h i (by omega)
    have s1 : stAt rows (2 * i + 1) = [(2 * i, ("each" : Str))] := by rw [st_succ g1, h1, step_each _ hx]
    have s2 : stAt rows (2 * (i + 1)) = [] := by
      show stAt rows (2 * i + 1 + 1) = []
      rw [st_succ g2, s1, step_end]
    refine ⟨s2, fun j hj => ?_⟩
    rintro ⟨r, hr, hw⟩
    by_cases e1 : j = 2 * i
    · subst e1
      rw [g1] at hr
      cases hr
      rw [h1] at hw
      have := (blk_facts.1 x hx).1
      unfold sn at hw
      rw [List.map_nil, this] at hw
      cases hw
    · by_cases e2 : j = 2 * i + 1
      · subst e2
        rw [g2] at hr
        cases hr
        rw [s1] at hw
        have := blk_facts.2.1
        unfold sn at hw
        rw [List.map_cons, List.map_nil, this] at hw
        cases hw
      · exact h2 j (by omega) ⟨r, hr, hw⟩
end Fn

set_option Elab.async false
set_option linter.all false
set_option maxRecDepth 100000
set_option maxHeartbeats 1000000
namespace Fn
open PySem PySem.Spec PyProof.Rows L2 Ow ErX
/-- things of k16 that are no texts -/
inductive NoS (H : Hp) : V → Prop where
  | non : NoS H .non
  | bl (b : Bool) : NoS H (.bl b)
  | int (i : Int) : NoS H (.int i)
  | lst {a : Addr} {xs : List V} (e : H a = some (.lst xs)) : NoS H (.ref a)
  | tup {a : Addr} {xs : List V} (e : H a = some (.tup xs)) : NoS H (.ref a)
  | dK {a : Addr} {kvs : List (Key × V)} (e : H a = some (.dK kvs)) : NoS H (.ref a)
theorem NoS.same {H H' : Hp} {v : V} (h : NoS H v) (s : Same H H') : NoS H' v := by
  cases h with
  | non => exact .non
  | bl b => exact .bl b
  | int i => exact .int i
  | lst e => exact .lst (s _ _ e)
  | tup e => exact .tup (s _ _ e)
  | dK e => exact .dK (s _ _ e)
theorem NoS.no {K : PySem.W.Frag} {H : Hp} {v : V} (h : NoS H v) : NoStr K H v := by
  cases h with
  | non => exact ⟨_, .base .non, rfl⟩
  | bl b => exact ⟨_, .base (.bl b), rfl⟩
  | int i => exact ⟨_, .base (.int i), rfl⟩
  | lst e => exact ⟨_, .base (.lst e), rfl⟩
  | tup e => exact ⟨_, .base (.tup e), rfl⟩
  | dK e => exact ⟨_, .base (.dK e), rfl⟩
def anyC : Nat → Nat
  | 0 => 2
  | d + 1 => 3 + 3 * anyC d
/-- _law_any at depth d -/
def spAny (d : Nat) : Sp := fun vs H Q _ => ∃ (b : Addr) (n : Nat), vs = [.ref b, .int (d : Nat)] ∧ BagAt H b n ∧ n + anyC d < 800000000 ∧ ∀ v H' m, NoS H' v → m ≤ n + anyC d → BagAt H' b m → Stay b H H' → Q v H'
def spPickV : Sp := fun vs H Q _ => ∃ (b l : Addr) (n : Nat) (xs : List V), vs = [.ref b, .ref l] ∧ BagAt H b n ∧ n < 900000000 ∧ H l = some (.lst xs) ∧ l ≠ b ∧ 0 < xs.length ∧ xs.length ≤ 64 ∧ ∀ (i : Nat) v H', xs[i]? = some v → BagAt H' b (n + 1) → Stay b H H' → Q v H'
def spFlat : Sp := fun vs H Q _ => ∃ (b : Addr) (n many : Nat), vs = [.ref b, .int (many : Nat)] ∧ BagAt H b n ∧ n < 800000000 ∧ 0 < many ∧ many ≤ 60 ∧ ∀ (p : Addr) (rows : List Str) (m : Nat) H', (∀ r ∈ rows, r ∈ FL) → rows.length = many → m ≤ n + 200 → H p = none → H' p = some (.lst (rows.map V.str)) → BagAt H' b m → Stay b H H' → Q (.ref p) H'
/-- the last rows -/
def TL3 (t : List Str) : Prop := t = [("pause" : Str)] ∨ t = [("end" : Str)] ∨ t = [("pause" : Str), ("each" : Str)]
def spLsts : Sp := fun vs H Q _ => ∃ (b : Addr) (n : Nat), vs = [.ref b] ∧ BagAt H b n ∧ n < 800000000 ∧ ∀ (p : Addr) (pre t : List Str) (k m : Nat) H', Blk pre k → pre.length = 2 * k → k ≤ 8 → TL3 t → (∀ r ∈ pre, r ∈ voc6) → m ≤ n + 200 → H p = none → H' p = some (.lst ((pre ++ t).map V.str)) → BagAt H' b m → Stay b H H' → Q (.ref p) H'
theorem stay_over {b a : Addr} {H H' : Hp} {o : HO} (s : Stay b H H') (h : H a = none) : Stay b H (upd H' a o) := fun c u n e => by rw [upd_ne (ne_of_none e h)]; exact s c u n e
end Fn

set_option Elab.async false
set_option linter.all false
set_option maxRecDepth 100000
set_option maxHeartbeats 2000000
/-! what the laws' drawn functions are: names, plain rows, blocks, groups, functions -/
namespace Fn
open PySem PySem.Spec PyProof.Rows L2 Ow ErX
def spNames : Sp := fun vs H Q _ => ∃ (b : Addr) (n : Nat), vs = [.ref b] ∧ BagAt H b n ∧ n < 800000000 ∧ ∀ (p : Addr) (ns : List Str) (m : Nat) H', ns ≠ [] → ns.length ≤ 3 → (∀ x ∈ ns, isLc x.cps.toList = true) → m ≤ n + 100 → H p = none → H' p = some (.lst (ns.map V.str)) → BagAt H' b m → Stay b H H' → Q (.ref p) H'
def spMayR (K : PySem.W.Frag) : Sp := fun vs H Q _ => ∃ (p : Addr) (z : Str) (ps : List Str), vs = [.ref p, .str z] ∧ SqL K H p (ps.map V.str) ∧ ∀ H', Same H H' → Q (.bl (mayR ps z)) H'
def spPlainR : Sp := fun vs H Q _ => ∃ (b p : Addr) (n : Nat) (ps : List Str), vs = [.ref b, .ref p] ∧ BagAt H b n ∧ n < 850000000 ∧ H p = some (.lst (ps.map V.str)) ∧ p ≠ b ∧ ps.length ≤ 16 ∧ ∀ r H', r ∈ PLN → isW r ps = false → BagAt H' b (n + 1) → Stay b H H' → Q (.str r) H'
def gC : Nat → Nat
  | 0 => 9
  | d + 1 => 33 + 8 * gC d
/-- the rows of a group in the parts ps, d blocks more may be opened in it -/
def spGrp (d : Nat) : Sp := fun vs H Q _ => ∃ (b N p : Addr) (n left : Nat) (ns ps : List Str), vs = [.ref b, .ref N, .int (left : Nat), .ref p] ∧ BagAt H b n ∧ n + gC d < 800000000 ∧ ps.length + d = 5 ∧ H N = some (.lst (ns.map V.str)) ∧ N ≠ b ∧ ns ≠ [] ∧ ns.length ≤ 3 ∧ (∀ x ∈ ns, isLc x.cps.toList = true) ∧ H p = some (.lst (ps.map V.str)) ∧ p ≠ b ∧ left ≤ 24 ∧
  ∀ (q : Addr) (rows : List Str) (m : Nat) H', Keeps ps rows → (∀ r ∈ rows, DRow ns r) → rows.length ≤ left → m ≤ n + gC d → H q = none → H' q = some (.lst (rows.map V.str)) → BagAt H' b m → Stay b H H' → Q (.ref q) H'
/-- a block in the parts ps, d blocks more may be opened in it -/
def spBlk (d : Nat) : Sp := fun vs H Q _ => ∃ (b N p : Addr) (n left : Nat) (ns ps : List Str), vs = [.ref b, .ref N, .int (left : Nat), .ref p] ∧ BagAt H b n ∧ n + (5 + 2 * gC d) < 800000000 ∧ ps.length + (d + 1) = 5 ∧ H N = some (.lst (ns.map V.str)) ∧ N ≠ b ∧ ns ≠ [] ∧ ns.length ≤ 3 ∧ (∀ x ∈ ns, isLc x.cps.toList = true) ∧ H p = some (.lst (ps.map V.str)) ∧ p ≠ b ∧ 3 ≤ left ∧ left ≤ 24 ∧
  ∀ (q : Addr) (rows : List Str) (m : Nat) H', Keeps ps rows → (∀ r ∈ rows, DRow ns r) → rows.length ≤ left → m ≤ n + (5 + 2 * gC d) → H q = none → H' q = some (.lst (rows.map V.str)) → BagAt H' b m → Stay b H H' → Q (.ref q) H'
def spFun : Sp := fun vs H Q _ => ∃ (b : Addr) (n most : Nat), vs = [.ref b, .int (most : Nat)] ∧ BagAt H b n ∧ n < 1000000 ∧ 0 < most ∧ most ≤ 24 ∧
  ∀ (q : Addr) (rows ns : List Str) (m : Nat) H', Keeps [] rows → (∀ r ∈ rows, DRow ns r) → ns.length ≤ 3 → rows ≠ [] → rows.length ≤ most → m ≤ n + 10000000 → H q = none → H' q = some (.lst (rows.map V.str)) → BagAt H' b m → Stay b H H' → Q (.ref q) H'
theorem keeps_good {rows : List Str} (h : Keeps [] rows) : Good rows := good_run (h 0 [] rfl)
/-! ### plain rows -/
theorem pln_facts : ∀ r ∈ PLN, wr r = true ∧ hd r = r ∧ inS OPN r = false ∧ mid r = none ∧ r ≠ "end" ∧ (inS ["drain", "close"] r = true → r = "drain" ∨ r = "close") := by decide +kernel
theorem pln_isW {r : Str} (h : r ∈ PLN) (ps : List Str) : isW r ps = (if r = "return" then inS ps "finally" || inS ps "rescue" else inS ["drain", "close"] r && !mayR ps r) := by
  obtain ⟨h1, h2, h3, h4, h5, _⟩ := pln_facts r h
  unfold isW
  rw [if_neg (by rw [h1]; decide), h2, if_neg (by rw [h3]; decide), h4]
  simp only [if_neg h5, mayR_eq]
theorem pln_keeps {r : Str} {ps : List Str} (h : r ∈ PLN) (hw : isW r ps = false) : Keeps ps [r] := by
  obtain ⟨h1, h2, h3, h4, h5, _⟩ := pln_facts r h
  exact keeps_row hw (by rw [h2, h3]; decide) (by rw [h2, h4]; decide) (by rw [h2]; exact h5)
theorem pln_drow {r : Str} (h : r ∈ PLN) (ns : List Str) : DRow ns r := .inl ((by decide +kernel : ∀ r ∈ PLN, r ∈ DVOC) r h)
/-! ### blocks: a first row, rows, perhaps a middle and rows, end -/
/-- a first row that may be opened -/
structure Opn (ns ps : List Str) (word first : Str) : Prop where
  drow : DRow ns first
  hd : hd first = word
  opn : inS OPN word = true
  nw : isW first ps = false
theorem opn_of {ns ps : List Str} {word first : Str} (hl : ps.length < 5) (h1 : DRow ns first) (h2 : hd first = word) (h3 : inS OPN word = true) (h4 : word = "each" → inS ps "each" = false) (h5 : word = "retry" → ps.countP (· == ("retry" : Str)) < 2) : Opn ns ps word first := by
  refine ⟨h1, h2, h3, ?_⟩
  unfold isW
  rw [if_neg (by rw [(drow_wr h1).1]; decide), h2, if_pos h3]
  unfold opW
  rw [if_neg (by omega)]
  by_cases e : word = "each"
  · rw [if_pos e]; exact h4 e
  · rw [if_neg e]
    by_cases e2 : word = "retry"
    · rw [decide_eq_true e2, decide_eq_false (by have := h5 e2; omega)]; rfl
    · rw [decide_eq_false e2]; rfl
theorem sn_last1 (ps : List Str) (x y : Str) : lastIs (ps ++ [x]) y = decide (x = y) := by
  unfold lastIs
  rw [List.getLast?_concat, Bool.eq_iff_iff, decide_eq_true_eq, decide_eq_true_eq]
  exact ⟨fun h => Option.some.inj h, fun h => by rw [h]⟩
theorem end_isW (ps : List Str) {x : Str} (h : x ≠ "try") : isW "end" (ps ++ [x]) = false := by
  have h1 : wr "end" = true := by decide +kernel
  have h2 : inS OPN (hd "end") = false := by decide +kernel
  have h3 : mid (hd "end") = none := by decide +kernel
  have h4 : hd "end" = "end" := by decide +kernel
  unfold isW
  rw [if_neg (by rw [h1]; decide), if_neg (by rw [h2]; decide), h3]
  simp only [if_pos h4]
  rw [sn_last1, decide_eq_false h]
  cases ps <;> rfl
theorem mid_isW (ps : List Str) {m x : Str} (h1 : wr m = true) (h2 : inS OPN (hd m) = false) (h3 : mid (hd m) = some x) : isW m (ps ++ [x]) = false := by
  unfold isW
  rw [if_neg (by rw [h1]; decide), if_neg (by rw [h2]; decide), h3]
  simp only
  rw [sn_last1, decide_eq_true rfl]
  cases ps <;> rfl
theorem block_keeps {ns ps l : List Str} {word first : Str} (o : Opn ns ps word first) (hl : Keeps (ps ++ [word]) l) (hn : word ≠ "try") : Keeps ps (first :: (l ++ [("end" : Str)])) := by
  have e := o.hd
  refine keeps_block o.nw (by rw [e]; exact o.opn) (by rw [e]; exact hl) (by rw [e]; exact end_isW ps hn)
theorem block2_keeps {ns ps l l2 : List Str} {word first m : Str} (o : Opn ns ps word first) (hl : Keeps (ps ++ [word]) l) (hm : (word = "maybe" ∧ m = "else") ∨ (word = "try" ∧ (m = "finally" ∨ m = "rescue"))) (hl2 : Keeps (ps ++ [m]) l2) : Keeps ps (first :: (l ++ m :: (l2 ++ [("end" : Str)]))) := by
  have e := o.hd
  obtain ⟨f1, f2, f3, f4, f5⟩ : wr m = true ∧ inS OPN (hd m) = false ∧ mid (hd m) = some word ∧ hd m = m ∧ m ≠ "try" := by
    rcases hm with ⟨rfl, rfl⟩ | ⟨rfl, rfl | rfl⟩ <;> decide +kernel
  refine keeps_block2 o.nw (by rw [e]; exact o.opn) (by rw [e]; exact hl) (by rw [e]; exact mid_isW ps f1 f2 f3) (by rw [f2]; decide) (by rw [f3]; rfl) (by rw [f4]; exact hl2) (by rw [f4]; exact end_isW ps f5)
theorem drow_more {ns : List Str} : DRow ns "end" ∧ DRow ns "else" ∧ DRow ns "finally" ∧ DRow ns "rescue" := ⟨.inl (by decide +kernel), .inl (by decide +kernel), .inl (by decide +kernel), .inl (by decide +kernel)⟩
end Fn

set_option Elab.async false
set_option linter.all false
set_option maxRecDepth 100000
set_option maxHeartbeats 2000000
/-! lists of such rows, compared -/
namespace Fn
open PySem PySem.Spec PyProof.Rows L2 Ow ErX
theorem rk_str {r : Str} (h : RK r) : PyData.strOk r = true := by
  unfold PyData.strOk
  rw [← Array.all_toList, List.all_eq_true]
  exact fun c hc => decide_eq_true (Nat.lt_of_lt_of_le ((vr_of h).cps c hc).1 (by decide))
theorem rk_can : ∀ {l : List Str}, (∀ x ∈ l, RK x) → PyData.canLayAll0 (datS l) = true
  | [], _ => rfl
  | x :: l, h => by
    have h1 := rk_str (h x (List.mem_cons_self ..))
    have h2 := rk_can (l := l) fun y hy => h y (List.mem_cons_of_mem _ hy)
    show (PyData.strOk x && PyData.canLayAll0 (datS l)) = true
    rw [h1, h2]
    rfl
theorem depth_s : ∀ (l : List Str), PyData.depthAll (datS l) = 0
  | [] => rfl
  | x :: l => by
    have := depth_s l
    show max (PyData.depth (.str x)) (PyData.depthAll (datS l)) = 0
    rw [this]
    rfl
theorem rk_shaped {l : List Str} (h : ∀ x ∈ l, RK x) : SeqAt.shaped (.list (datS l)) = true := by
  have h1 : PyData.canLay0 (.list (datS l)) = true := rk_can h
  have h2 := depth_s l
  unfold SeqAt.shaped
  rw [h1, Bool.true_and, decide_eq_true_eq]
  show PyData.depthAll (datS l) + 1 ≤ 64
  omega
theorem rk_shapedT {l : List Str} (h : ∀ x ∈ l, RK x) : SeqAt.shaped (.tuple (datS l)) = true := by
  have h1 : PyData.canLay0 (.tuple (datS l)) = true := rk_can h
  have h2 := depth_s l
  unfold SeqAt.shaped
  rw [h1, Bool.true_and, decide_eq_true_eq]
  show PyData.depthAll (datS l) + 1 ≤ 64
  omega
theorem eqvNil (l : List Str) : PyData.eqv (.list (datS l)) (.list []) = l.isEmpty := by cases l <;> rfl
/-- what one turn of a group may draw -/
def gT : Nat → Nat
  | 0 => 2
  | e + 1 => 8 + 2 * gC e
theorem gC_eq (d : Nat) : gC d = 1 + 4 * gT d := by
  cases d with
  | zero => rfl
  | succ e => show 33 + 8 * gC e = 1 + 4 * (8 + 2 * gC e); omega
theorem gT_2 (d : Nat) : 2 ≤ gT d := by
  cases d with
  | zero => exact Nat.le_refl 2
  | succ e => show 2 ≤ 8 + 2 * gC e; omega
theorem gC5 : gC 5 = 449385 := by decide
end Fn

set_option Elab.async false
set_option linter.all false
set_option maxRecDepth 100000
set_option maxHeartbeats 2000000
/-! the first wrong row, also where rows are none -/
namespace Fn
open PySem PySem.Spec PyProof.Rows L2 Ow ErX
def Mays2 (rs : List Str) (i : Nat) : Prop := ∀ j, j < i → ∀ r, rs[j]? = some r → wr r = true ∧ may (lsAt rs j) (hd r) = true
theorem Mays2.mays {rs : List Str} {i : Nat} (h : Mays2 rs i) : Mays rs i := fun j hj r hr => (h j hj r hr).2
theorem notok2 {rs : List Str} {i : Nat} {r : Str} (hi : i ≤ rs.length) (hm : Mays rs i) (hr : rs[i]? = some r) : NotOk rs i ↔ (wr r && may (lsAt rs i) (hd r)) = false := by
  obtain ⟨h1, h2⟩ := rel_at hi hm
  unfold NotOk
  rw [h2]
  cases hw : wr r with
  | true =>
    have e := may_eq h1 hw
    rw [Bool.true_and]
    constructor
    · rintro ⟨r', q1, q2⟩
      rw [hr] at q1
      cases q1
      rw [e] at q2
      simpa using q2
    · intro q
      exact ⟨r, hr, by rw [e, q]; rfl⟩
  | false =>
    refine ⟨fun _ => rfl, fun _ => ⟨r, hr, ?_⟩⟩
    unfold isW
    rw [if_pos hw]
theorem mays2_ok {rs : List Str} {i : Nat} (hi : i ≤ rs.length) (hm : Mays2 rs i) : ∀ j, j < i → ¬ NotOk rs j := fun j hj h => by
  obtain ⟨r, hr, q⟩ := id h
  have := (notok2 (Nat.le_trans (Nat.le_of_lt hj) hi) (fun k hk => hm.mays k (by omega)) hr).mp h
  obtain ⟨m1, m2⟩ := hm j hj r hr
  rw [m1, m2] at this
  cases this
theorem bad2_row {rs : List Str} {k : Nat} {r : Str} (hm : Mays2 rs k) (hr : rs[k]? = some r) (q : (wr r && may (lsAt rs k) (hd r)) = false) : Bad rs k := by
  have hk := Nat.le_of_lt (List.getElem?_eq_some_iff.mp hr).1
  exact ⟨mays2_ok hk hm, .inl ((notok2 hk hm.mays hr).mpr q)⟩
theorem bad2_end {rs : List Str} (hm : Mays2 rs rs.length) (q : lsAt rs rs.length ≠ []) : Bad rs rs.length := by
  refine ⟨mays2_ok (Nat.le_refl _) hm, .inr ⟨rfl, fun e => q ?_⟩⟩
  have := (rel_at (Nat.le_refl _) hm.mays).2
  rw [e] at this
  cases z : lsAt rs rs.length with
  | nil => rfl
  | cons a l => rw [z] at this; cases this
theorem good2_of {rs : List Str} (hm : Mays2 rs rs.length) (h : lsAt rs rs.length = []) : Good rs := by
  refine ⟨mays2_ok (Nat.le_refl _) hm, ?_⟩
  have := (rel_at (Nat.le_refl _) hm.mays).2
  rw [h] at this
  cases z : stAt rs rs.length with
  | nil => rfl
  | cons a l => rw [z] at this; cases this
def spLRow2 : Sp := fun vs H Q _ => ∃ (p : Addr) (ws : List Str), vs = [.ref p] ∧ H p = some (.lst (ws.map V.str)) ∧ (∀ y ∈ ws, y.length ≤ 64) ∧ ∀ H', Same H H' → Q (.bl (lrow ws)) H'
def spFirst2 (K : PySem.W.Frag) : Sp := fun vs H Q _ => ∃ (p : Addr) (rows : List Str), vs = [.ref p] ∧ SqL K H p (rows.map V.str) ∧ rows.length ≤ 24 ∧ (∀ r ∈ rows, RK r) ∧ (∀ k, Bad (rows.map spc) k → ∀ H', Same H H' → Q (.int (k : Nat)) H') ∧ (Good (rows.map spc) → ∀ H', Same H H' → Q .non H')
def spWrg2 (K : PySem.W.Frag) : Sp := fun vs H Q _ => ∃ (p : Addr) (rows : List Str), vs = [.ref p] ∧ SqL K H p (rows.map V.str) ∧ rows.length ≤ 24 ∧ rows ≠ [] ∧ (∀ r ∈ rows, RK r) ∧ (∀ k, Bad (rows.map spc) k → ∀ H', Same H H' → Q (.int (k : Nat)) H') ∧ (Good (rows.map spc) → ∀ ys, Lists (rows.map spc) ys → ys.length ≤ 3 → ∀ H', Same H H' → Q .non H') ∧ (Good (rows.map spc) → ∀ ys, Lists (rows.map spc) ys → 3 < ys.length → ∀ H', Same H H' → Q (.str "lists") H')
def spOdd : Sp := fun vs H Q _ => ∃ (b : Addr) (n : Nat), vs = [.ref b] ∧ BagAt H b n ∧ n < 850000000 ∧ ∀ r H', RK r → BagAt H' b (n + 2) → Stay b H H' → Q (.str r) H'
def spBent : Sp := fun vs H Q _ => ∃ (b p : Addr) (n : Nat) (rows : List Str), vs = [.ref b, .ref p] ∧ BagAt H b n ∧ n < 800000000 ∧ H p = some (.lst (rows.map V.str)) ∧ p ≠ b ∧ rows ≠ [] ∧ rows.length ≤ 24 ∧ (∀ r ∈ rows, RK r) ∧
  ∀ (q : Addr) (rows' : List Str) (m : Nat) H', rows' ≠ [] → rows'.length ≤ 24 → (∀ r ∈ rows', RK r) → m ≤ n + 20 → H q = none → H' q = some (.lst (rows'.map V.str)) → BagAt H' b m → Stay b H H' → Q (.ref q) H'
theorem good_wr {rs : List Str} (h : Good rs) : ∀ r ∈ rs, wr r = true := fun r hr => by
  obtain ⟨j, hj, e⟩ := List.getElem_of_mem hr
  cases hw : wr r with
  | true => rfl
  | false => exact absurd ⟨r, by rw [List.getElem?_eq_getElem hj, e], by unfold isW; rw [if_pos hw]⟩ (h.1 j hj)
theorem two_sec {r y : Str} (h : ((Txt.split r " ").map V.str)[1]? = some (.str y)) : sec r = y := by
  unfold sec
  rw [List.getElem?_map] at h
  obtain ⟨z, hz, e⟩ := Option.map_eq_some_iff.mp h
  rw [hz, ← V.str.inj e]
  rfl
theorem secs_spc {rows : List Str} (h : ∀ r ∈ rows, RK r ∧ wr (spc r) = true) : secs (rows.map spc) = secs rows := by
  induction rows with
  | nil => rfl
  | cons r rows ih =>
    have ih := ih fun q hq => h q (List.mem_cons_of_mem _ hq)
    obtain ⟨h1, h2⟩ := h r (List.mem_cons_self ..)
    have hV := vr_of h1
    unfold secs at ih ⊢
    rw [List.map_cons, List.filter_cons, List.filter_cons, hV.est h2]
    by_cases c : Txt.startswith r "each " = true
    · obtain ⟨y, e1, e2⟩ := hV.two c
      rw [if_pos c, if_pos c, List.map_cons, List.map_cons, ih, ← e2 h2, two_sec e1]
    · rw [if_neg c, if_neg c, ih]
theorem good_secs {rows : List Str} (h : ∀ r ∈ rows, RK r) (g : Good (rows.map spc)) : secs (rows.map spc) = secs rows :=
  secs_spc fun r hr => ⟨h r hr, good_wr g _ (List.mem_map.mpr ⟨r, hr, rfl⟩)⟩
theorem lists_len {rows ys zs : List Str} (h : ∀ r ∈ rows, RK r) (g : Good (rows.map spc)) (hL : Lists (rows.map spc) ys) (hn : zs.Nodup) (hm : ∀ z, z ∈ zs ↔ z ∈ secs rows) : zs.length = ys.length := by
  obtain ⟨_, h1, h2⟩ := hL
  rw [good_secs h g] at h2
  exact ((List.perm_ext_iff_of_nodup hn h1).mpr fun z => (hm z).trans (h2 z).symm).length_eq
end Fn

set_option Elab.async false
set_option linter.all false
set_option maxRecDepth 100000
set_option maxHeartbeats 2000000
/-! the blocks around a row; rows that wait and rows that step -/
namespace Fn
open PySem PySem.Spec PyProof.Rows L2 Ow ErX
theorem fs_dl (bs : Bl) : fs bs.dropLast = (fs bs).dropLast := by unfold fs; exact List.map_dropLast
theorem fs_step (i : Nat) (r : Str) (bs : Bl) : fs (step i r bs) = if inS OPN (hd r) = true then fs bs ++ [i] else if (mid (hd r)).isSome then fs bs else if hd r = "end" then (fs bs).dropLast else fs bs := by
  unfold step
  by_cases h1 : inS OPN (hd r) = true
  · rw [if_pos h1, if_pos h1]; unfold fs; rw [List.map_append]; rfl
  · rw [if_neg h1, if_neg h1]
    by_cases h2 : (mid (hd r)).isSome
    · rw [if_pos h2, if_pos h2]
      cases e : bs.getLast? with
      | none =>
        rw [List.getLast?_eq_none_iff] at e
        rw [e]
        rfl
      | some b =>
        obtain ⟨l, rfl⟩ := List.getLast?_eq_some_iff.mp e
        unfold fs
        simp
    · rw [if_neg h2, if_neg h2]
      by_cases h3 : hd r = "end"
      · rw [if_pos h3, if_pos h3, fs_dl]
      · rw [if_neg h3, if_neg h3]
/-- the row that opens the innermost block around row k -/
def par (rs : List Str) (k : Nat) : Option Nat := (fs (stAt rs k)).getLast?
def bV : Option Nat → V
  | some j => .int (j : Nat)
  | none => .non
theorem par_eq (rs : List Str) (k : Nat) : (match (stAt rs k).getLast? with | some b => V.int (b.1 : Nat) | none => V.non) = bV (par rs k) := by
  unfold par fs
  rw [List.getLast?_map]
  cases (stAt rs k).getLast? <;> rfl
theorem bk_at (rs : List Str) : ∀ {n k : Nat}, k < n → (bkAt rs n)[k]? = some (bV (par rs k))
  | 0, k, h => absurd h (Nat.not_lt_zero k)
  | n + 1, k, h => by
    show (bkAt rs n ++ [match (stAt rs n).getLast? with | some b => V.int (b.1 : Nat) | none => V.non])[k]? = _
    rw [par_eq]
    by_cases e : k < n
    · rw [List.getElem?_append_left (by rw [bk_len]; exact e), bk_at rs e]
    · have : k = n := by omega
      rw [List.getElem?_append_right (by rw [bk_len]; omega), bk_len, this, Nat.sub_self]
      rfl
/-- what a stack of open blocks says of itself -/
theorem fs_pre {rs : List Str} : ∀ {k : Nat}, k ≤ rs.length → ∀ i j, (fs (stAt rs k))[i]? = some j → j < k ∧ fs (stAt rs j) = (fs (stAt rs k)).take i ∧ ∃ r, rs[j]? = some r ∧ inS OPN (hd r) = true
  | 0, _, i, j, h => by cases h
  | k + 1, hk, i, j, h => by
    have ih := fs_pre (rs := rs) (k := k) (by omega)
    have hr : rs[k]? = some rs[k] := List.getElem?_eq_getElem (by omega)
    have hs : fs (stAt rs (k + 1)) = fs (step k rs[k] (stAt rs k)) := by rw [st_succ hr]
    rw [hs, fs_step] at h ⊢
    by_cases h1 : inS OPN (hd rs[k]) = true
    · rw [if_pos h1] at h ⊢
      by_cases hi : i < (fs (stAt rs k)).length
      · rw [List.getElem?_append_left hi] at h
        obtain ⟨a, b, c⟩ := ih i j h
        exact ⟨by omega, by rw [b, List.take_append_of_le_length (by omega)], c⟩
      · rw [List.getElem?_append_right (by omega)] at h
        have : i = (fs (stAt rs k)).length := by
          have := (List.getElem?_eq_some_iff.mp h).1
          simp at this
          omega
        subst this
        rw [Nat.sub_self] at h
        have : k = j := by simpa using h
        subst this
        exact ⟨by omega, by rw [List.take_left], _, hr, h1⟩
    · rw [if_neg h1] at h ⊢
      by_cases h2 : (mid (hd rs[k])).isSome
      · rw [if_pos h2] at h ⊢
        obtain ⟨a, b, c⟩ := ih i j h
        exact ⟨by omega, b, c⟩
      · rw [if_neg h2] at h ⊢
        by_cases h3 : hd rs[k] = "end"
        · rw [if_pos h3] at h ⊢
          rw [List.dropLast_eq_take] at h ⊢
          have hi : i < (fs (stAt rs k)).length - 1 := by
            have := (List.getElem?_eq_some_iff.mp h).1
            rw [List.length_take] at this
            omega
          rw [List.getElem?_take_of_lt hi] at h
          obtain ⟨a, b, c⟩ := ih i j h
          exact ⟨by omega, by rw [b, List.take_take, Nat.min_eq_left (by omega)], c⟩
        · rw [if_neg h3] at h ⊢
          obtain ⟨a, b, c⟩ := ih i j h
          exact ⟨by omega, b, c⟩
/-- the i-th of the rows around row k, from without; i = 0: none -/
def anc (rs : List Str) (k i : Nat) : Option Nat := if i = 0 then none else (fs (stAt rs k))[i - 1]?
theorem anc_top (rs : List Str) (k : Nat) : par rs k = anc rs k (fs (stAt rs k)).length := by
  unfold par anc
  rw [List.getLast?_eq_getElem?]
  by_cases h : (fs (stAt rs k)).length = 0
  · rw [if_pos h]
    rw [List.getElem?_eq_none_iff]
    omega
  · rw [if_neg h]
theorem anc_down {rs : List Str} {k i j : Nat} (hk : k ≤ rs.length) (h : anc rs k (i + 1) = some j) : j < k ∧ par rs j = anc rs k i ∧ ∃ r, rs[j]? = some r ∧ inS OPN (hd r) = true := by
  unfold anc at h
  rw [if_neg (by omega), Nat.add_sub_cancel] at h
  obtain ⟨a, b, c⟩ := fs_pre hk i j h
  refine ⟨a, ?_, c⟩
  have hi := (List.getElem?_eq_some_iff.mp h).1
  unfold par anc
  rw [b, List.getLast?_eq_getElem?, List.length_take, Nat.min_eq_left (Nat.le_of_lt hi)]
  by_cases z : i = 0
  · rw [if_pos z, z]; rfl
  · rw [if_neg z, List.getElem?_take_of_lt (by omega)]
theorem anc_some {rs : List Str} {k i : Nat} (h : i < (fs (stAt rs k)).length) : ∃ j, anc rs k (i + 1) = some j := by
  unfold anc
  rw [if_neg (by omega), Nat.add_sub_cancel]
  exact ⟨_, List.getElem?_eq_getElem h⟩
/-- row k is inside a shield; only the first i of the rows around it -/
def shT (rs : List Str) (k i : Nat) : Bool := ((fs (stAt rs k)).take i).any fun j => decide (rs[j]? = some ("shield" : Str))
def sh (rs : List Str) (k : Nat) : Bool := (fs (stAt rs k)).any fun j => decide (rs[j]? = some ("shield" : Str))
theorem sh_top (rs : List Str) (k : Nat) : shT rs k (fs (stAt rs k)).length = sh rs k := by unfold shT sh; rw [List.take_length]
theorem sh_down {rs : List Str} {k i j : Nat} (h : anc rs k (i + 1) = some j) : shT rs k (i + 1) = (shT rs k i || decide (rs[j]? = some ("shield" : Str))) := by
  unfold anc at h
  rw [if_neg (by omega), Nat.add_sub_cancel] at h
  unfold shT
  rw [List.take_succ, h, List.any_append]
  simp
def WT : List Str := ["read", "head", "body", "finish", "pause"]
def WOS : List Str := ["try", "finally", "rescue", "shield", "else"]
def wtB (rs : List Str) (k : Nat) : Bool := (match rs[k]? with | some r => inS WT r | none => false) && !sh rs k
def wts (rs : List Str) : List Nat := (List.range rs.length).filter (wtB rs)
def stB (rs : List Str) (k : Nat) : Bool := match rs[k]? with
  | some r => if r = "end" then (match par rs k with | some j => (match rs[j]? with | some q => Txt.startswith q "each " | none => false) | none => false) else !inS WOS r
  | none => false
def sts (rs : List Str) : List Nat := (List.range rs.length).filter (stB rs)
def nV (l : List Nat) : List V := l.map fun n => V.int (n : Nat)
theorem nV_len (l : List Nat) : (nV l).length = l.length := by unfold nV; rw [List.length_map]
theorem range_t {p : Nat → Bool} {i : Nat} (h : p i = true) : (List.range (i + 1)).filter p = (List.range i).filter p ++ [i] := by
  rw [List.range_succ, List.filter_append]
  simp [h]
theorem range_f {p : Nat → Bool} {i : Nat} (h : ¬ p i = true) : (List.range (i + 1)).filter p = (List.range i).filter p := by
  rw [List.range_succ, List.filter_append]
  simp [h]
theorem range_le (p : Nat → Bool) (n : Nat) : ((List.range n).filter p).length ≤ n := by
  have := List.length_filter_le p (List.range n)
  rw [List.length_range] at this
  exact this
/-- a good function's end has a block -/
theorem good_end {rs : List Str} (g : Good rs) {k : Nat} (h : rs[k]? = some ("end" : Str)) : ∃ j, par rs k = some j ∧ j < k ∧ ∃ q, rs[j]? = some q := by
  have hk := (List.getElem?_eq_some_iff.mp h).1
  have hn : isW "end" (sn (stAt rs k)) = false := by
    cases e : isW "end" (sn (stAt rs k)) with
    | false => rfl
    | true => exact absurd ⟨"end", h, e⟩ (g.1 k hk)
  have hne : (sn (stAt rs k)).isEmpty = false := nw_end hn (by decide +kernel) (by decide +kernel) (by decide +kernel)
  have hl : 0 < (fs (stAt rs k)).length := by
    cases e : stAt rs k with
    | nil => rw [e] at hne; cases hne
    | cons a l => unfold fs; simp
  obtain ⟨j, hj⟩ := anc_some (rs := rs) (k := k) (i := (fs (stAt rs k)).length - 1) (by omega)
  rw [Nat.sub_add_cancel hl] at hj
  refine ⟨j, by rw [anc_top, hj], ?_⟩
  rw [show (fs (stAt rs k)).length = (fs (stAt rs k)).length - 1 + 1 by omega] at hj
  obtain ⟨a, _, r, hr, _⟩ := anc_down (Nat.le_of_lt hk) hj
  exact ⟨a, r, hr⟩
def spBlock1 (C : Addr) : Sp := fun vs H Q _ => ∃ (p dx : Addr) (rs ys : List Str) (k : Nat), vs = [.ref p, .int (k : Nat)] ∧ FnIn C H p rs ys dx ∧ k < rs.length ∧ ∀ H', Same H H' → Q (bV (par rs k)) H'
def spShd (C : Addr) : Sp := fun vs H Q _ => ∃ (p dx : Addr) (rs ys : List Str) (k : Nat), vs = [.ref p, .int (k : Nat)] ∧ FnIn C H p rs ys dx ∧ k < rs.length ∧ rs.length ≤ 64 ∧ ∀ H', Same H H' → Q (.bl (sh rs k)) H'
def spStp (C : Addr) : Sp := fun vs H Q _ => ∃ (p dx : Addr) (rs ys : List Str) (k : Nat), vs = [.ref p, .int (k : Nat)] ∧ FnIn C H p rs ys dx ∧ Good rs ∧ k < rs.length ∧ ∀ H', Same H H' → Q (.bl (stB rs k)) H'
def spWts (C : Addr) : Sp := fun vs H Q _ => ∃ (p dx : Addr) (rs ys : List Str), vs = [.ref p] ∧ FnIn C H p rs ys dx ∧ rs.length ≤ 64 ∧ ∀ q H', H q = none → H' q = some (.lst (nV (wts rs))) → Same H H' → Q (.ref q) H'
def spSts (C : Addr) : Sp := fun vs H Q _ => ∃ (p dx : Addr) (rs ys : List Str), vs = [.ref p] ∧ FnIn C H p rs ys dx ∧ Good rs ∧ rs.length ≤ 64 ∧ ∀ q H', H q = none → H' q = some (.lst (nV (sts rs))) → Same H H' → Q (.ref q) H'
theorem FnIn.same {C : Addr} {H H' : Hp} {p : Addr} {rs ys : List Str} {dx : Addr} (h : FnIn C H p rs ys dx) (s : Same H H') : FnIn C H' p rs ys dx := by
  obtain ⟨a, b, c, h1, h2, h3, h4⟩ := h
  exact ⟨a, b, c, s _ _ h1, s _ _ h2, s _ _ h3, s _ _ h4⟩
theorem op_inK {X : Cx} {K : PySem.W.Frag} (hK : X.K = K) : OpR X (compareOp .In) (rIn K false) := by
  subst hK
  exact op_in_seq
theorem op_ninK {X : Cx} {K : PySem.W.Frag} (hK : X.K = K) : OpR X (compareOp .NotIn) (rIn K true) := by
  subst hK
  exact op_notIn_seq
end Fn

set_option Elab.async false
set_option linter.all false
set_option maxRecDepth 100000
set_option maxHeartbeats 4000000
namespace Ow
open PySem PySem.Spec PyProof.Rows L2 Fn ErX
local macro_rules | `(tactic| walk_at "rd") => `(tactic| repeat (first | (refine ⟨_, rfl, ?_⟩) | (refine ⟨_, _, rfl, rfl, ?_⟩) | (refine ⟨rfl, ?_⟩) | (refine ⟨_, _, rfl, ?_⟩) | (refine Or.inl ⟨_, rfl, ?_⟩) | (refine ⟨(by first | (show (0 : Int) < (_ : Int); decide) | exact Or.inl ⟨by decide, by decide⟩ | exact Or.inr ⟨by decide, by decide⟩ | exact ⟨by decide, by decide⟩ | exact ⟨by decide, by decide, by decide⟩), ?_⟩)))
local macro_rules | `(tactic| walk_at "at") => `(tactic| first | assumption | exact upd_same | exact at_new (by assumption) | (refine at_same (by assumption) ?_; walk_at "at") | (refine at_old (by assumption) ?_ ?_; (focus walk_at "ne"); walk_at "at") | (refine at_upd ?_ ?_; (focus walk_at "ne"); walk_at "at") | (refine at_stay (by assumption) ?_ ?_; (focus walk_at "ne"); walk_at "at"))
local macro_rules | `(tactic| walk_at "ex") => `(tactic| first | exact ⟨_, by assumption⟩ | exact ⟨_, upd_same⟩ | exact ⟨_, at_new (by assumption)⟩ | (refine ex_same (by assumption) ?_; walk_at "ex") | (refine ex_old (by assumption) ?_; walk_at "ex") | (refine ex_upd ?_; walk_at "ex") | (refine ex_stay (by assumption) ?_ ?_; (focus walk_at "ne"); walk_at "ex"))
local macro_rules | `(tactic| walk_at "ne") => `(tactic| first | assumption | (refine Ne.symm ?_; assumption) | (refine ne_fx (by assumption) ?_; walk_at "ex") | (refine Ne.symm (ne_fx (by assumption) ?_); walk_at "ex") | (refine ne_kx (by assumption) ?_; (apply Exists.intro; refine And.intro ?_ ?_; (focus walk_at "at"); (intro z; cases z))) | (refine Ne.symm (ne_kx (by assumption) ?_); (apply Exists.intro; refine And.intro ?_ ?_; (focus walk_at "at"); (intro z; cases z))))
structure FnD2 (K : PySem.W.Frag) (mg : Str → Option Value) (AW AX : Addr) : Prop where
  gW : mg "WAITING" = some (.ref AW)
  gX : mg "WITHOUT_STEP" = some (.ref AX)
  sW : ∀ H, SqT K H AW (WT.map V.str)
  sX : ∀ H, SqT K H AX (WOS.map V.str)
section
variable {P : Program} {w : World} {K : PySem.W.Frag} {mg : Str → Option Value} {base : Heap} {C AW AX : Addr}
abbrev s_Function_block : Stmt := inClass (top 27) 5
theorem sc_Function_block : FnScope ["self", "row"] ["self", "row"] (defScope s_Function_block) := ⟨rfl, rfl, rfl, by decide +kernel, rfl, by decide +kernel, by decide +kernel⟩
theorem ok_fblock {f : Addr} {fd : FuncData} (F : Fun K "block" "Function.block" s_Function_block f fd) (T : Txt mg) (R : FnK K C) : FnOk P w K mg base CX0 1 f fd ["self", "row"] (spBlock1 C) := by
  refine F.ok sc_Function_block (fun vs H Q E h => ?_) (fun cdv A outer s H vs Q E hr h => ?_)
  · obtain ⟨p, dx, rs, ys, k, rfl, _⟩ := h
    rfl
  · obtain ⟨p, dx, rs, ys, k, rfl, ⟨a, b, c, h1, h2, h3, h4⟩, hk, kk⟩ := h
    have hu := hu_of hr
    refine ⟨_, (pss_one (ps_ret (pe_ix ix_list (pe_fld (pv 0) rfl) (pv 1) (fun _ _ => rfl)))), ?_⟩
    walk_at "rd"
    refine ⟨p, C, dx, _, .ref b, rfl, h1, R.cl, R.n2, rfl, ?_⟩
    walk_at "rd"
    refine ⟨b, _, _, _, rfl, rfl, SqL.of h3, atI_nat (bk_at rs hk), ?_⟩
    exact kk H fun _ _ e => e
abbrev s_FunctionDis_shielded : Stmt := inClass (top 27) 6
theorem sc_FunctionDis_shielded : FnScope ["self", "row", "around"] ["self", "row"] (defScope s_FunctionDis_shielded) := ⟨rfl, rfl, rfl, by decide +kernel, rfl, by decide +kernel, by decide +kernel⟩
theorem ok_shd {f : Addr} {fd : FuncData} (F : Fun K "_is_shielded" "Function._is_shielded" s_FunctionDis_shielded f fd) (T : Txt mg) (R : FnK K C) (c_fblock : CalM P w K mg base C "block" 1 (spBlock1 C)) : FnOk P w K mg base CX0 2 f fd ["self", "row"] (spShd C) := by
  refine F.ok sc_FunctionDis_shielded (fun vs H Q E h => ?_) (fun cdv A outer s H vs Q E hr h => ?_)
  · obtain ⟨p, dx, rs, ys, k, rfl, _⟩ := h
    rfl
  · obtain ⟨p, dx, rs, ys, k, rfl, hF, hk, hl, kk⟩ := h
    have hu := hu_of hr
    refine ⟨_, (pss_cons (ps_set (i := 2) sc_FunctionDis_shielded.nd rfl (Or.inl rfl) (pe_calM c_fblock (hr.mono (by decide)) (pv 0) (pa_cons (pv 1) pa_nil)))
      (pss_cons (ps_while PassesOwn.never (pt_cmpR op_notN (pv 2) pe_non (nomark _)) (pss_cons (ps_if (pt_cmpR op_eq (pe_ix ix_tup (pe_fld (pv 0) rfl) (pv 2) (fun _ _ => rfl)) pe_str (nomark _)) (pss_one (ps_ret pe_bl)) pss_nil)
      (pss_one (ps_set (i := 2) sc_FunctionDis_shielded.nd rfl (Or.inl rfl) (pe_calM c_fblock (hr.mono (by decide)) (pv 0) (pa_cons (pv 2) pa_nil))))))
      (pss_one (ps_ret pe_bl)))), ?_⟩
    have hn : (fs (stAt rs k)).length ≤ k := by unfold fs; rw [List.length_map]; exact st_len rs k
    obtain ⟨a0, b0, c0, q1, _⟩ := id hF
    walk_at "rd"
    refine ⟨p, dx, _, rfl, q1, rfl, ?_⟩
    walk_at "rd"
    refine ⟨p, dx, rs, ys, k, rfl, hF, hk, fun H1 S1 => ?_⟩
    rw [anc_top]
    walk_at "rd"
    refine ⟨fun m σ H' => (σ = [some (.ref p), some (.int (k : Nat)), some (bV (anc rs k m))] ∧ m ≤ (fs (stAt rs k)).length ∧ sh rs k = shT rs k m) ∧ Same H H', ⟨_, ⟨rfl, Nat.le_refl _, (sh_top rs k).symm⟩, S1⟩, ?_⟩
    rintro m σ H2 ⟨⟨rfl, hm, hs⟩, S2⟩
    cases m with
    | zero =>
      walk_at "rd"
      have e : sh rs k = false := by rw [hs]; rfl
      rw [← e]
      exact kk H2 S2
    | succ i =>
      obtain ⟨j, hj⟩ := anc_some (rs := rs) (k := k) (i := i) (by omega)
      obtain ⟨j1, j2, r, hr', _⟩ := anc_down (Nat.le_of_lt hk) hj
      have hs2 := sh_down hj
      rw [hj]
      have hF2 := hF.same S2
      obtain ⟨a1, b1, c1, p1, p2, p3, p4⟩ := id hF2
      walk_at "rd"
      refine ⟨fun σ' H' => (σ' = [some (.ref p), some (.int (k : Nat)), some (bV (anc rs k i))] ∧ i ≤ (fs (stAt rs k)).length ∧ sh rs k = shT rs k i) ∧ Same H H', fun σ' H' h => ⟨i, Nat.lt_succ_self i, h⟩, ?_⟩
      walk_at "rd"
      refine ⟨p, C, dx, _, .ref a1, rfl, p1, R.cl, R.n1, rfl, ?_⟩
      walk_at "rd"
      have hrj : (rs.map V.str)[j]? = some (.str r) := by rw [List.getElem?_map, hr']; rfl
      refine ⟨a1, _, _, _, rfl, rfl, SqT.of p2, atI_nat hrj, ?_⟩
      walk_at "rd"
      refine ite2 (fun c => ?_) (fun c => ?_)
      · have c := eqS c
        walk_at "rd"
        have e : sh rs k = true := by rw [hs, hs2, hr', c, decide_eq_true rfl, Bool.or_true]
        rw [← e]
        exact kk H2 S2
      · have c := neS c
        walk_at "rd"
        refine ⟨p, dx, _, rfl, p1, rfl, ?_⟩
        refine ⟨.int (j : Nat), rfl, ?_⟩
        walk_at "rd"
        refine ⟨p, dx, rs, ys, j, rfl, hF2, by omega, fun H3 S3 => ?_⟩
        rw [j2]
        refine ⟨⟨rfl, by omega, ?_⟩, same_trans S2 S3⟩
        rw [hs, hs2, hr', decide_eq_false (fun e => c (Option.some.inj e)), Bool.or_false]
abbrev s_FunctionDis_step : Stmt := inClass (top 27) 7
theorem sc_FunctionDis_step : FnScope ["self", "row"] ["self", "row"] (defScope s_FunctionDis_step) := ⟨rfl, rfl, rfl, by decide +kernel, rfl, by decide +kernel, by decide +kernel⟩
theorem ok_stp {f : Addr} {fd : FuncData} (F : Fun K "_is_step" "Function._is_step" s_FunctionDis_step f fd) (T : Txt mg) (R : FnK K C) (D2 : FnD2 K mg AW AX) (c_fblock : CalM P w K mg base C "block" 1 (spBlock1 C)) : FnOk P w K mg base CX0 2 f fd ["self", "row"] (spStp C) := by
  refine F.ok sc_FunctionDis_step (fun vs H Q E h => ?_) (fun cdv A outer s H vs Q E hr h => ?_)
  · obtain ⟨p, dx, rs, ys, k, rfl, _⟩ := h
    rfl
  · obtain ⟨p, dx, rs, ys, k, rfl, hF, hg, hk, kk⟩ := h
    have hu := hu_of hr
    refine ⟨_, (pss_cons (ps_if (pt_cmpR op_eq (pe_ix ix_tup (pe_fld (pv 0) rfl) (pv 1) (fun _ _ => rfl)) pe_str (nomark _)) (pss_one (ps_ret (pe_m1 PySem.F.slot_str_startswith PySem.F.type_str_startswith mt_startswith (pe_ix ix_tup (pe_fld (pv 0) rfl) (pe_calM c_fblock (hr.mono (by decide)) (pv 0) (pa_cons (pv 1) pa_nil)) (fun _ _ => rfl)) pe_str))) pss_nil)
      (pss_one (ps_ret (pe_cmpR op_notIn_seq (pe_ix ix_tup (pe_fld (pv 0) rfl) (pv 1) (fun _ _ => rfl)) (pe_glob (v := .ref AX) rfl D2.gX rfl) rfl)))), ?_⟩
    obtain ⟨a1, b1, c1, p1, p2, p3, p4⟩ := id hF
    obtain ⟨r, hr'⟩ : ∃ r, rs[k]? = some r := ⟨_, List.getElem?_eq_getElem hk⟩
    have hrk : (rs.map V.str)[k]? = some (.str r) := by rw [List.getElem?_map, hr']; rfl
    have S0 : Same H H := fun _ _ e => e
    walk_at "rd"
    refine ⟨p, C, dx, _, .ref a1, rfl, p1, R.cl, R.n1, rfl, ?_⟩
    walk_at "rd"
    refine ⟨a1, _, _, _, rfl, rfl, SqT.of p2, atI_nat hrk, ?_⟩
    walk_at "rd"
    refine ite2 (fun c => ?_) (fun c => ?_)
    · have c := eqS c
      subst c
      obtain ⟨j, j1, j2, q, hq⟩ := good_end hg hr'
      have hqk : (rs.map V.str)[j]? = some (.str q) := by rw [List.getElem?_map, hq]; rfl
      walk_at "rd"
      refine ⟨p, C, dx, _, .ref a1, rfl, p1, R.cl, R.n1, rfl, ?_⟩
      walk_at "rd"
      refine ⟨p, dx, _, rfl, p1, rfl, ?_⟩
      walk_at "rd"
      refine ⟨p, dx, rs, ys, k, rfl, hF, hk, fun H1 S1 => ?_⟩
      rw [j1]
      refine ⟨a1, _, _, _, rfl, rfl, SqT.of (S1 _ _ p2), atI_nat hqk, ?_⟩
      have e : stB rs k = Txt.startswith q "each " := by unfold stB; rw [hr', j1]; simp only [hq, if_pos]
      walk_at "rd"
      have := kk H1 S1
      rw [e] at this
      exact ⟨⟨_, rfl⟩, _, _, rfl, rfl, this⟩
    · have c := neS c
      have e : stB rs k = !inS WOS r := by unfold stB; rw [hr']; simp only [if_neg c]
      walk_at "rd"
      refine ⟨p, C, dx, _, .ref a1, rfl, p1, R.cl, R.n1, rfl, ?_⟩
      walk_at "rd"
      refine ⟨a1, _, _, _, rfl, rfl, SqT.of p2, atI_nat hrk, ?_⟩
      walk_at "rd"
      refine ⟨AX, _, rfl, .inr (D2.sX H), rfl, flatS _, ?_⟩
      have := kk H S0
      rw [e] at this
      exact this
abbrev s_Function_waits : Stmt := inClass (top 27) 8
theorem sc_Function_waits : FnScope ["self", "at", "row"] ["self"] (defScope s_Function_waits) := ⟨rfl, rfl, rfl, by decide +kernel, rfl, by decide +kernel, by decide +kernel⟩
theorem ok_waits {f : Addr} {fd : FuncData} (F : Fun K "waits" "Function.waits" s_Function_waits f fd) (T : Txt mg) (R : FnK K C) (D2 : FnD2 K mg AW AX) (c_shd : CalM P w K mg base C "_is_shielded" 2 (spShd C)) : FnOk P w K mg base CX0 3 f fd ["self"] (spWts C) := by
  refine F.ok sc_Function_waits (fun vs H Q E h => ?_) (fun cdv A outer s H vs Q E hr h => ?_)
  · obtain ⟨p, dx, rs, ys, rfl, _⟩ := h
    rfl
  · obtain ⟨p, dx, rs, ys, rfl, hF, hl, kk⟩ := h
    have hu := hu_of hr
    refine ⟨_, (pss_one (ps_ret (pe_lc (own := [("at", 1), ("row", 2)]) (g := gTup _ 2 (gCons (gName 1) (gCons (gName 2) (gNil)))) (by rfl) sc_Function_waits.nd (EnT.pi_enumT (by rfl) T.n_enumerate (pa_cons (pe_fld (pv 0) rfl) pa_nil)) (blkOk_by (own := [("at", 1), ("row", 2)]) (N := ["self", "at", "row"]) (sc := defScope s_Function_waits) (by decide +kernel)) (fun _ _ _ _ _ => (pg_tup rfl (pgs_cons (pg_name (i := 1) sc_Function_waits.nd rfl (Or.inl rfl)) (pgs_cons (pg_name (i := 2) sc_Function_waits.nd rfl (Or.inl rfl)) pgs_nil)))) (fun _ _ _ _ _ => (pts_one (PW.pt (pw_and (pt_cmpR (op_inK (K := K) rfl) (pv 2) (pe_glob (v := .ref AW) rfl D2.gW rfl) rfl) (pw_and1 (pt_not (pt_val (pe_calM c_shd (hr.mono (by decide)) (pv 0) (pa_cons (pv 1) pa_nil))))))))) (fun _ _ _ _ _ => (pv 1))))), ?_⟩
    obtain ⟨a1, b1, c1, p1, p2, p3, p4⟩ := id hF
    walk_at "rd"
    refine ⟨p, C, dx, _, .ref a1, rfl, p1, R.cl, R.n1, rfl, ?_⟩
    refine ⟨a1, _, rfl, SqT.of p2, fun D hD => lc_it (walk_enumT (xs := rs.map V.str)) (fun i H' => H' D = some (.lst (nV ((List.range i).filter (wtB rs)))) ∧ Same H H') ⟨upd_same, same_new (fun _ _ e => e) hD⟩ (fun i H' _ h => sqT_same (SqT.of p2) h.2) ?_ ?_⟩
    · rintro i v H1 H2 hi ⟨ha, S1⟩ ⟨t, x, y, rfl, ht, rfl, hx, hy⟩
      cases hx
      rw [List.length_map] at hi
      have hri : rs[i]? = some rs[i] := List.getElem?_eq_getElem hi
      generalize rs[i] = r at hri
      have hy : (rs.map V.str)[i]? = some y := hy
      rw [List.getElem?_map, hri] at hy
      cases hy
      have S2 := same_new (o := .tup [.int (i : Nat), .str r]) (fun a u (e : H1 a = some u) => e) ht
      have ha := S2 _ _ ha
      have htt : upd H1 t (.tup [.int (i : Nat), .str r]) t = some (.tup [.int (i : Nat), .str r]) := upd_same
      have S2 := same_trans S1 S2
      generalize upd H1 t (.tup [.int (i : Nat), .str r]) = H2 at S2 ha htt
      clear ht S1
      have ew : wtB rs i = (inS WT r && !sh rs i) := by unfold wtB; rw [hri]
      have lt : (nV ((List.range i).filter (wtB rs))).length < sizeLine := by
        rw [nV_len]
        have := range_le (wtB rs) i
        exact Nat.lt_of_lt_of_le (m := 65) (by omega) (by decide)
      refine ⟨t, _, rfl, SqT.of htt, rfl, ?_⟩
      walk_at "rd"
      refine ⟨AW, _, rfl, .inr (D2.sW H2), rfl, flatS _, ?_⟩
      walk_at "rd"
      refine ite2 (fun c => ?_) (fun c => ?_)
      · have c : inS WT r = true := c
        walk_at "rd"
        refine ⟨p, dx, _, rfl, S2 _ _ p1, rfl, ?_⟩
        walk_at "rd"
        refine ⟨p, dx, rs, ys, i, rfl, hF.same S2, hi, hl, fun H3 S3 => ?_⟩
        have ha := S3 _ _ ha
        have S3 := same_trans S2 S3
        walk_at "rd"
        refine ite2 (fun c2 => ?_) (fun c2 => ?_)
        · walk_at "rd"
          refine ⟨_, ha, lt, ?_, same_over S3 hD⟩
          rw [upd_same, range_t (by rw [ew, c, Bool.true_and]; exact c2)]
          unfold nV
          rw [List.map_append]
          rfl
        · refine ⟨?_, S3⟩
          rw [range_f (by rw [ew, c, Bool.true_and]; exact c2)]
          exact ha
      · have c : ¬ inS WT r = true := c
        refine ⟨?_, S2⟩
        rw [range_f (by rw [ew, not_tt c]; exact Bool.false_ne_true)]
        exact ha
    · rintro H1 ⟨ha, S1⟩
      rw [List.length_map] at ha
      exact kk D H1 hD ha S1
abbrev s_Function_step_rows : Stmt := inClass (top 27) 9
theorem sc_Function_step_rows : FnScope ["self", "at"] ["self"] (defScope s_Function_step_rows) := ⟨rfl, rfl, rfl, by decide +kernel, rfl, by decide +kernel, by decide +kernel⟩
theorem ok_steps {f : Addr} {fd : FuncData} (F : Fun K "step_rows" "Function.step_rows" s_Function_step_rows f fd) (T : Txt mg) (R : FnK K C) (c_stp : CalM P w K mg base C "_is_step" 2 (spStp C)) : FnOk P w K mg base CX0 3 f fd ["self"] (spSts C) := by
  refine F.ok sc_Function_step_rows (fun vs H Q E h => ?_) (fun cdv A outer s H vs Q E hr h => ?_)
  · obtain ⟨p, dx, rs, ys, rfl, _⟩ := h
    rfl
  · obtain ⟨p, dx, rs, ys, rfl, hF, hg, hl, kk⟩ := h
    have hu := hu_of hr
    refine ⟨_, (pss_one (ps_ret (pe_lc (own := [("at", 1)]) (g := gName 1) (by rfl) sc_Function_step_rows.nd (pi_range1 rfl T.n_range (pa_cons (pe_callB call_len_seq (by rfl) T.n_len (by decide +kernel) (pa_cons (pe_fld (pv 0) rfl) pa_nil)) pa_nil)) (blkOk_by (own := [("at", 1)]) (N := ["self", "at"]) (sc := defScope s_Function_step_rows) (by decide +kernel)) (fun _ _ _ _ _ => (pg_name (i := 1) sc_Function_step_rows.nd rfl (Or.inl rfl))) (fun _ _ _ _ _ => (pts_one (pt_val (pe_calM c_stp (hr.mono (by decide)) (pv 0) (pa_cons (pv 1) pa_nil))))) (fun _ _ _ _ _ => (pv 1))))), ?_⟩
    obtain ⟨a1, b1, c1, p1, p2, p3, p4⟩ := id hF
    walk_at "rd"
    refine ⟨p, C, dx, _, .ref a1, rfl, p1, R.cl, R.n1, rfl, ?_⟩
    refine ⟨a1, _, rfl, .inr (SqT.of p2), ?_⟩
    rw [List.length_map]
    walk_at "rd"
    refine ⟨by omega, by omega, fun D hD => ?_⟩
    refine lc_it (walk_range (lo := 0) (n := rs.length)) (fun i H' => H' D = some (.lst (nV ((List.range i).filter (stB rs)))) ∧ Same H H') ⟨upd_same, same_new (fun _ _ e => e) hD⟩ (fun _ _ _ _ => True.intro) ?_ ?_
    · rintro i x H1 H2 hi ⟨ha, S1⟩ ⟨rfl, rfl⟩
      have hi : i < rs.length := hi
      refine ⟨rfl, ?_⟩
      walk_at "rd"
      refine ⟨p, dx, _, rfl, S1 _ _ p1, rfl, ?_⟩
      walk_at "rd"
      refine ⟨p, dx, rs, ys, i, by show [V.ref p, V.int (0 + ((i : Nat) : Int))] = _; rw [Int.zero_add], hF.same S1, hg, hi, fun H3 S3 => ?_⟩
      have ha := S3 _ _ ha
      have S3 := same_trans S1 S3
      walk_at "rd"
      refine ite2 (fun c => ?_) (fun c => ?_)
      · walk_at "rd"
        refine ⟨_, ha, ?_, ?_, same_over S3 hD⟩
        · rw [nV_len]
          have := range_le (stB rs) i
          exact Nat.lt_of_lt_of_le (m := 65) (by omega) (by decide)
        · rw [upd_same, range_t c]
          show some (HO.lst (nV ((List.range i).filter (stB rs)) ++ [V.int (0 + ((i : Nat) : Int))])) = _
          rw [Int.zero_add]
          unfold nV
          rw [List.map_append]
          rfl
      · refine ⟨?_, S3⟩
        rw [range_f c]
        exact ha
    · rintro H1 ⟨ha, S1⟩
      exact kk D H1 hD ha S1
end
end Ow

set_option Elab.async false
set_option linter.all false
set_option maxRecDepth 100000
set_option maxHeartbeats 2000000
/-! the laws' own walk over the blocks of a drawn function -/
namespace Fn
open PySem PySem.Spec PyProof.Rows L2 Ow ErX
def datN (l : List Nat) : List PyData := l.map fun n => .int (n : Nat)
theorem dpAll_n {K : PySem.W.Frag} {H : Hp} : ∀ l : List Nat, DpAll K H (nV l) (datN l)
  | [] => .nil
  | n :: l => .cons (.int _) (dpAll_n l)
theorem can_n : ∀ l : List Nat, PyData.canLayAll0 (datN l) = true
  | [] => rfl
  | n :: l => can_n l
theorem depth_n : ∀ l : List Nat, PyData.depthAll (datN l) = 0
  | [] => rfl
  | n :: l => by
    have := depth_n l
    show max (PyData.depth (.int (n : Nat))) (PyData.depthAll (datN l)) = 0
    rw [this]
    rfl
theorem shaped_n (l : List Nat) : SeqAt.shaped (.list (datN l)) = true := by
  have h1 : PyData.canLay0 (.list (datN l)) = true := can_n l
  have h2 := depth_n l
  unfold SeqAt.shaped
  rw [h1, Bool.true_and, decide_eq_true_eq]
  show PyData.depthAll (datN l) + 1 ≤ 64
  omega
theorem eqvN_nil (l : List Nat) : PyData.eqv (.list (datN l)) (.list []) = l.isEmpty := by cases l <;> rfl
theorem eqvN_self (l : List Nat) : PyData.eqv (.list (datN l)) (.list (datN l)) = true := by
  have : ∀ l : List Nat, PyData.eqvAll (datN l) (datN l) = true := fun l => by
    induction l with
    | nil => rfl
    | cons n l ih =>
      show (PyData.eqv (.int (n : Nat)) (.int (n : Nat)) && PyData.eqvAll (datN l) (datN l)) = true
      rw [ih]
      have : PyData.eqv (.int (n : Nat)) (.int (n : Nat)) = ((n : Int) == (n : Int)) := rfl
      rw [this, beq_self_eq_true]
      rfl
  exact this l
/-- words that stand alone in a row -/
def ONE : List Str := ["ask", "begin", "finish", "read", "head", "body", "pause", "check", "drain", "close", "return", "maybe", "try", "shield", "else", "finally", "rescue", "end"]
theorem one_facts : (∀ z ∈ ONE, hd z = z ∧ z ≠ "each") ∧ (∀ r ∈ DVOC, hd r ∈ ONE → hd r = r) := by decide +kernel
theorem one_hd {ns : List Str} {r : Str} (h : DRow ns r) {z : Str} (hz : z ∈ ONE) : hd r = z ↔ r = z := by
  obtain ⟨z1, z2⟩ := one_facts.1 z hz
  constructor
  · intro e
    rcases h with h | ⟨x, _, hx, rfl⟩
    · rw [← one_facts.2 r h (by rw [e]; exact hz), e]
    · rw [(each_row hx).2.2.1] at e
      exact absurd e.symm z2
  · intro e
    rw [e, z1]
theorem one_in {ns : List Str} {r : Str} (h : DRow ns r) {Z : List Str} (hZ : ∀ z ∈ Z, z ∈ ONE) : inS Z (hd r) = inS Z r := by
  rw [Bool.eq_iff_iff, inS_mem, inS_mem]
  constructor
  · intro m
    have e : r = hd r := (one_hd h (hZ _ m)).mp rfl
    rw [e]
    exact m
  · intro m
    rw [(one_hd h (hZ _ m)).mpr rfl]
    exact m
theorem drow_raw {ns : List Str} {r : Str} (h : DRow ns r) : Raw r := (vr_of (drow_rk h)).raw
theorem drow_ne {ns : List Str} {r : Str} (h : DRow ns r) : Txt.split r " " ≠ [] := by
  have := (drow_raw h).row.ne
  rw [(drow_wr h).2] at this
  exact this
/-- the first four signs of a row -/
theorem drow_four {ns : List Str} {r : Str} (h : DRow ns r) : decide (V.str (cutS r none (some 4)) = V.str "each") = Txt.startswith r "each " := by
  rcases h with h | ⟨x, _, hx, rfl⟩
  · exact (by decide +kernel : ∀ r ∈ DVOC, decide (V.str (cutS r none (some 4)) = V.str "each") = Txt.startswith r "each ") r h
  · rw [each_start]
    have e1 : (TL.tl ("each" : Str)).length = 4 := by decide +kernel
    have e2 : TL.tl ("each " : Str) = TL.tl ("each" : Str) ++ [32] := by decide +kernel
    have l5 : ("each " : Str).length = 5 := by decide +kernel
    have hl : 4 ≤ (("each " : Str) ++ x).length := by rw [PySem.Str.length_append, l5]; omega
    have hm : min 4 (("each " : Str) ++ x).length = 4 := Nat.min_eq_left hl
    have e : cutS (("each " : Str) ++ x) none (some 4) = "each" := by
      refine TL.ext_tl ?_
      show ((TL.tl (("each " : Str) ++ x)).drop (HT.sIx _ 0 none)).take (HT.sIx _ _ (some ((4 : Nat) : Int)) - HT.sIx _ 0 none) = _
      rw [HT.sIx_none, HT.sIx_nat, hm, List.drop_zero, Nat.sub_zero, TL.tl_append, e2, List.append_assoc, List.take_append_of_le_length (by rw [e1]; exact Nat.le_refl _), List.take_of_length_le (by rw [e1]; exact Nat.le_refl _)]
    rw [e]
    exact decide_eq_true rfl
/-- the rows around row k, from within -/
def chn (rs : List Str) (k : Nat) : List Nat := (fs (stAt rs k)).reverse
def rowAt (rs : List Str) (j : Nat) : Str := (rs[j]?).getD ""
theorem chn_sh {rs : List Str} {k : Nat} (hk : k ≤ rs.length) : inS ((chn rs k).map (rowAt rs)) "shield" = sh rs k := by
  rw [Bool.eq_iff_iff, inS_mem]
  unfold sh chn
  rw [List.mem_map, List.any_eq_true]
  constructor
  · rintro ⟨j, hj, e⟩
    have hj := List.mem_reverse.mp hj
    refine ⟨j, hj, decide_eq_true ?_⟩
    obtain ⟨i, hi, hij⟩ := List.getElem_of_mem hj
    obtain ⟨_, _, r, hr, _⟩ := fs_pre hk i j (by rw [List.getElem?_eq_getElem hi, hij])
    unfold rowAt at e
    rw [hr] at e ⊢
    have e : r = "shield" := e
    rw [e]
  · rintro ⟨j, hj, e⟩
    refine ⟨j, List.mem_reverse.mpr hj, ?_⟩
    unfold rowAt
    rw [of_decide_eq_true e]
    rfl
theorem chn_at {rs : List Str} {k : Nat} (hk : k ≤ rs.length) {j : Nat} (h : j ∈ chn rs k) : rs[j]? = some (rowAt rs j) := by
  unfold chn at h
  obtain ⟨i, hi, hij⟩ := List.getElem_of_mem (List.mem_reverse.mp h)
  obtain ⟨_, _, r, hr, _⟩ := fs_pre hk i j (by rw [List.getElem?_eq_getElem hi, hij])
  unfold rowAt
  rw [hr]
  rfl
theorem chn_len (rs : List Str) (k : Nat) : (chn rs k).length ≤ k := by
  unfold chn
  rw [List.length_reverse]
  unfold fs
  rw [List.length_map]
  exact st_len rs k
/-- the first of them, down to m -/
def chT (rs : List Str) (k m : Nat) : List Nat := ((fs (stAt rs k)).drop m).reverse
theorem chT_down {rs : List Str} {k m j : Nat} (h : anc rs k (m + 1) = some j) : chT rs k m = chT rs k (m + 1) ++ [j] := by
  unfold anc at h
  rw [if_neg (by omega), Nat.add_sub_cancel] at h
  unfold chT
  obtain ⟨a, b⟩ := List.getElem?_eq_some_iff.mp h
  rw [List.drop_eq_getElem_cons a, b, List.reverse_cons]
def spOpeners (K : PySem.W.Frag) : Sp := fun vs H Q _ => ∃ (p : Addr) (rs ns : List Str), vs = [.ref p] ∧ SqL K H p (rs.map V.str) ∧ Good rs ∧ (∀ r ∈ rs, DRow ns r) ∧ rs.length ≤ 24 ∧ ∀ q H', H q = none → H' q = some (.lst (bkAt rs rs.length)) → Same H H' → Q (.ref q) H'
def spLBlocks (K : PySem.W.Frag) : Sp := fun vs H Q _ => ∃ (o : Addr) (rs : List Str) (k : Nat), vs = [.ref o, .int (k : Nat)] ∧ SqL K H o (bkAt rs rs.length) ∧ k < rs.length ∧ rs.length ≤ 24 ∧ ∀ q H', H q = none → H' q = some (.lst (nV (chn rs k))) → Same H H' → Q (.ref q) H'
theorem nV_last {l : List Nat} {j : Nat} (h : l.getLast? = some j) : (nV l).getLast? = some (.int (j : Nat)) := by
  unfold nV
  rw [List.getLast?_map, h]
  rfl
theorem good_nw {rs : List Str} (g : Good rs) {k : Nat} {r : Str} (h : rs[k]? = some r) : isW r (sn (stAt rs k)) = false := by
  cases e : isW r (sn (stAt rs k)) with
  | false => rfl
  | true => exact absurd ⟨r, h, e⟩ (g.1 k (List.getElem?_eq_some_iff.mp h).1)
end Fn

set_option Elab.async false
set_option linter.all false
set_option maxRecDepth 100000
set_option maxHeartbeats 2000000
/-! rows with shields put around some of them -/
namespace Fn
open PySem PySem.Spec PyProof.Rows L2 Ow ErX
def grp (S : Nat → Bool) (k : Nat) (r : Str) : List Str := if S k = true then ["shield", r, "end"] else [r]
/-- the first k rows, with their shields -/
def exP (S : Nat → Bool) (rs : List Str) : Nat → List Str
  | 0 => []
  | k + 1 => exP S rs k ++ grp S k (rowAt rs k)
def ex (S : Nat → Bool) (rs : List Str) : List Str := exP S rs rs.length
def cnt (S : Nat → Bool) (k : Nat) : Nat := ((List.range k).filter S).length
def pos (S : Nat → Bool) (k : Nat) : Nat := k + 2 * cnt S k
theorem cnt_t {S : Nat → Bool} {k : Nat} (h : S k = true) : cnt S (k + 1) = cnt S k + 1 := by unfold cnt; rw [range_t h, List.length_append]; rfl
theorem cnt_f {S : Nat → Bool} {k : Nat} (h : ¬ S k = true) : cnt S (k + 1) = cnt S k := by unfold cnt; rw [range_f h]
theorem pos_t {S : Nat → Bool} {k : Nat} (h : S k = true) : pos S (k + 1) = pos S k + 3 := by unfold pos; rw [cnt_t h]; omega
theorem pos_f {S : Nat → Bool} {k : Nat} (h : ¬ S k = true) : pos S (k + 1) = pos S k + 1 := by unfold pos; rw [cnt_f h]; omega
theorem grp_t {S : Nat → Bool} {k : Nat} (h : S k = true) (r : Str) : grp S k r = [("shield" : Str), r, ("end" : Str)] := by unfold grp; rw [if_pos h]
theorem grp_f {S : Nat → Bool} {k : Nat} (h : ¬ S k = true) (r : Str) : grp S k r = [r] := by unfold grp; rw [if_neg h]
theorem exP_len (S : Nat → Bool) (rs : List Str) : ∀ k, (exP S rs k).length = pos S k
  | 0 => rfl
  | k + 1 => by
    show (exP S rs k ++ grp S k (rowAt rs k)).length = _
    rw [List.length_append, exP_len S rs k]
    by_cases h : S k = true
    · rw [grp_t h, pos_t h]; rfl
    · rw [grp_f h, pos_f h]; rfl
theorem exP_pre {S : Nat → Bool} {rs : List Str} {k : Nat} : ∀ {n : Nat}, k ≤ n → ∃ l, exP S rs n = exP S rs k ++ l
  | 0, h => ⟨[], by rw [Nat.le_zero.mp h, List.append_nil]⟩
  | n + 1, h => by
    by_cases e : k = n + 1
    · exact ⟨[], by rw [e, List.append_nil]⟩
    · obtain ⟨l, hl⟩ := exP_pre (S := S) (rs := rs) (k := k) (n := n) (by omega)
      exact ⟨l ++ grp S n (rowAt rs n), by show exP S rs n ++ _ = _; rw [hl, List.append_assoc]⟩
theorem ex_at {S : Nat → Bool} {rs : List Str} {k j : Nat} {x : Str} (hk : k < rs.length) (h : (grp S k (rowAt rs k))[j]? = some x) : (ex S rs)[pos S k + j]? = some x := by
  obtain ⟨l, hl⟩ := exP_pre (S := S) (rs := rs) (k := k + 1) (n := rs.length) hk
  have hj := (List.getElem?_eq_some_iff.mp h).1
  unfold ex
  rw [hl]
  show (exP S rs k ++ grp S k (rowAt rs k) ++ l)[pos S k + j]? = some x
  rw [List.append_assoc, List.getElem?_append_right (by rw [exP_len]; omega), exP_len, Nat.add_sub_cancel_left, List.getElem?_append_left hj]
  exact h
theorem ex_len (S : Nat → Bool) (rs : List Str) : (ex S rs).length = pos S rs.length := exP_len S rs _
theorem ex_f {S : Nat → Bool} {rs : List Str} {k : Nat} {r : Str} (hr : rs[k]? = some r) (h : ¬ S k = true) : (ex S rs)[pos S k]? = some r := by
  refine ex_at (j := 0) (List.getElem?_eq_some_iff.mp hr).1 ?_
  rw [grp_f h]
  unfold rowAt
  rw [hr]
  rfl
theorem ex_t {S : Nat → Bool} {rs : List Str} {k : Nat} {r : Str} (hr : rs[k]? = some r) (h : S k = true) : (ex S rs)[pos S k]? = some ("shield" : Str) ∧ (ex S rs)[pos S k + 1]? = some r ∧ (ex S rs)[pos S k + 2]? = some ("end" : Str) := by
  have hk := (List.getElem?_eq_some_iff.mp hr).1
  refine ⟨ex_at (j := 0) hk ?_, ex_at (j := 1) hk ?_, ex_at (j := 2) hk ?_⟩
  all_goals
    rw [grp_t h]
  · rfl
  · unfold rowAt
    rw [hr]
    rfl
  · rfl
theorem pos_mono {S : Nat → Bool} {j k : Nat} (h : j < k) : pos S j < pos S k := by
  unfold pos cnt
  have : ((List.range j).filter S).length ≤ ((List.range k).filter S).length := by
    obtain ⟨d, rfl⟩ := Nat.exists_eq_add_of_le (Nat.le_of_lt h)
    rw [List.range_add, List.filter_append, List.length_append]
    omega
  omega
/-! ### the stack -/
def mapB (S : Nat → Bool) (bs : Bl) : Bl := bs.map fun b => (pos S b.1, b.2)
theorem sn_mapB (S : Nat → Bool) (bs : Bl) : sn (mapB S bs) = sn bs := by unfold sn mapB; rw [List.map_map]; rfl
theorem fs_mapB (S : Nat → Bool) (bs : Bl) : fs (mapB S bs) = (fs bs).map (pos S) := by unfold fs mapB; rw [List.map_map, List.map_map]; rfl
theorem step_mapB (S : Nat → Bool) (k : Nat) (r : Str) (bs : Bl) : step (pos S k) r (mapB S bs) = mapB S (step k r bs) := by
  unfold step
  by_cases h1 : inS OPN (hd r) = true
  · rw [if_pos h1, if_pos h1]; unfold mapB; rw [List.map_append]; rfl
  · rw [if_neg h1, if_neg h1]
    by_cases h2 : (mid (hd r)).isSome
    · rw [if_pos h2, if_pos h2]
      unfold mapB
      rw [List.getLast?_map, List.map_append, List.map_dropLast]
      cases bs.getLast? <;> rfl
    · rw [if_neg h2, if_neg h2]
      by_cases h3 : hd r = "end"
      · rw [if_pos h3, if_pos h3]; unfold mapB; rw [List.map_dropLast]
      · rw [if_neg h3, if_neg h3]
theorem wt_facts : ∀ r ∈ WT, r ∈ PLN ∧ r ≠ "return" ∧ inS ["drain", "close"] r = false ∧ hd r = r ∧ inS OPN r = false ∧ mid r = none ∧ r ≠ "end" := by decide +kernel
theorem wt_isW {r : Str} (h : inS WT r = true) (ps : List Str) : isW r ps = false := by
  obtain ⟨h1, h2, h3, _⟩ := wt_facts r (inS_mem.mp h)
  rw [pln_isW h1, if_neg h2, h3]
  rfl
theorem wt_step {r : Str} (h : inS WT r = true) (i : Nat) (bs : Bl) : step i r bs = bs := by
  obtain ⟨_, _, _, h4, h5, h6, h7⟩ := wt_facts r (inS_mem.mp h)
  exact same_fs (by rw [h4, h5]; decide) (by rw [h4, h6]; decide) (by rw [h4]; exact h7)
theorem shield_isW {ps : List Str} : isW "shield" ps = decide (5 ≤ ps.length) := by
  have h1 : wr "shield" = true := by decide +kernel
  have h2 : inS OPN (hd "shield") = true := by decide +kernel
  have h3 : hd "shield" = "shield" := by decide +kernel
  unfold isW
  rw [if_neg (by rw [h1]; decide), if_pos h2, h3]
  unfold opW
  have h4 : ¬ ("shield" : Str) = "each" := by decide +kernel
  have h5 : ¬ ("shield" : Str) = "retry" := by decide +kernel
  by_cases h : 5 ≤ ps.length
  · rw [if_pos h, decide_eq_true h]
  · rw [if_neg h, if_neg h4, decide_eq_false h5, decide_eq_false h]; rfl
theorem shield_step (i : Nat) (bs : Bl) : step i "shield" bs = bs ++ [(i, ("shield" : Str))] := by
  have h2 : inS OPN (hd "shield") = true := by decide +kernel
  have h3 : hd "shield" = "shield" := by decide +kernel
  unfold step
  rw [if_pos h2, h3]
theorem end_step (i : Nat) (bs : Bl) : step i "end" bs = bs.dropLast := by
  unfold step
  rw [if_neg (by decide +kernel), if_neg (by decide +kernel), if_pos (by decide +kernel)]
theorem sn_len (bs : Bl) : (sn bs).length = bs.length := by unfold sn; rw [List.length_map]
/-- chosen rows wait, and can be put into one block more -/
def Cho (S : Nat → Bool) (rs : List Str) (k : Nat) : Prop := ∀ j, j < k → S j = true → (∃ r, rs[j]? = some r ∧ inS WT r = true) ∧ (stAt rs j).length < 5
theorem ex_st {S : Nat → Bool} {rs : List Str} (g : Good rs) : ∀ {k : Nat}, k ≤ rs.length → Cho S rs k → stAt (ex S rs) (pos S k) = mapB S (stAt rs k) ∧ ∀ m, m < pos S k → ¬ NotOk (ex S rs) m
  | 0, _, _ => ⟨rfl, fun m h => absurd h (Nat.not_lt_zero m)⟩
  | k + 1, hk, hc => by
    obtain ⟨ih1, ih2⟩ := ex_st (S := S) g (k := k) (by omega) fun j hj => hc j (by omega)
    have hr : rs[k]? = some rs[k] := List.getElem?_eq_getElem (by omega)
    generalize rs[k] = r at hr
    have hn := good_nw g hr
    by_cases h : S k = true
    · obtain ⟨⟨r', hr', hw⟩, hd5⟩ := hc k (Nat.lt_succ_self k) h
      rw [hr] at hr'
      cases hr'
      obtain ⟨e1, e2, e3⟩ := ex_t hr h
      have s1 : stAt (ex S rs) (pos S k + 1) = mapB S (stAt rs k) ++ [(pos S k, ("shield" : Str))] := by rw [st_succ e1, ih1, shield_step]
      have s2 : stAt (ex S rs) (pos S k + 2) = mapB S (stAt rs k) ++ [(pos S k, ("shield" : Str))] := by rw [st_succ e2, s1, wt_step hw]
      have s3 : stAt (ex S rs) (pos S k + 3) = mapB S (stAt rs k) := by rw [st_succ e3, s2, end_step, List.dropLast_concat]
      refine ⟨by rw [pos_t h, s3, st_succ hr, wt_step hw], fun m hm => ?_⟩
      rw [pos_t h] at hm
      by_cases z0 : m < pos S k
      · exact ih2 m z0
      · rintro ⟨q, hq, hw2⟩
        rcases (show m = pos S k ∨ m = pos S k + 1 ∨ m = pos S k + 2 by omega) with z | z | z
        · rw [z] at hq hw2
          rw [e1] at hq
          cases hq
          rw [ih1, shield_isW, sn_mapB, sn_len, decide_eq_false (by omega)] at hw2
          cases hw2
        · rw [z] at hq hw2
          rw [e2] at hq
          cases hq
          rw [wt_isW hw] at hw2
          cases hw2
        · rw [z] at hq hw2
          rw [e3] at hq
          cases hq
          have e : sn (mapB S (stAt rs k) ++ [(pos S k, ("shield" : Str))]) = sn (mapB S (stAt rs k)) ++ [("shield" : Str)] := by unfold sn; rw [List.map_append]; rfl
          rw [s2, e, end_isW _ (by decide +kernel)] at hw2
          cases hw2
    · have e1 := ex_f hr h
      refine ⟨by rw [pos_f h, st_succ e1, ih1, step_mapB, st_succ hr], fun m hm => ?_⟩
      rw [pos_f h] at hm
      by_cases z0 : m < pos S k
      · exact ih2 m z0
      · have z : m = pos S k := by omega
        rintro ⟨q, hq, hw2⟩
        rw [z] at hq hw2
        rw [e1] at hq
        cases hq
        rw [ih1, sn_mapB, hn] at hw2
        cases hw2
theorem ex_good {S : Nat → Bool} {rs : List Str} (g : Good rs) (hc : Cho S rs rs.length) : Good (ex S rs) := by
  obtain ⟨h1, h2⟩ := ex_st g (Nat.le_refl _) hc
  refine ⟨fun j hj => h2 j (by rw [ex_len] at hj; exact hj), ?_⟩
  rw [ex_len, h1, g.2]
  rfl
theorem ex_bad {S : Nat → Bool} {rs : List Str} (g : Good rs) {k : Nat} (hk : k < rs.length) (hc : Cho S rs k) (h : S k = true) (h5 : 5 ≤ (stAt rs k).length) : Bad (ex S rs) (pos S k) := by
  obtain ⟨h1, h2⟩ := ex_st g (Nat.le_of_lt hk) hc
  have hr : rs[k]? = some rs[k] := List.getElem?_eq_getElem hk
  refine ⟨h2, .inl ⟨"shield", (ex_t hr h).1, ?_⟩⟩
  rw [h1, shield_isW, sn_mapB, sn_len, decide_eq_true h5]
/-- no row of a good function is inside of more than five blocks -/
theorem st_five {rs : List Str} (g : Good rs) : ∀ {k : Nat}, k ≤ rs.length → (stAt rs k).length ≤ 5
  | 0, _ => Nat.zero_le _
  | k + 1, hk => by
    have ih := st_five g (k := k) (by omega)
    have hr : rs[k]? = some rs[k] := List.getElem?_eq_getElem (by omega)
    have hn := good_nw g hr
    rw [st_succ hr]
    generalize rs[k] = r at hr hn
    unfold step
    by_cases h1 : inS OPN (hd r) = true
    · rw [if_pos h1, List.length_append]
      unfold isW at hn
      by_cases hw : wr r = false
      · rw [if_pos hw] at hn; cases hn
      · rw [if_neg hw, if_pos h1] at hn
        unfold opW at hn
        rw [sn_len] at hn
        by_cases h5 : 5 ≤ (stAt rs k).length
        · rw [if_pos h5] at hn; cases hn
        · show _ + 1 ≤ 5
          omega
    · rw [if_neg h1]
      split
      · rw [List.length_append, List.length_dropLast]
        cases e : (stAt rs k).getLast? with
        | none => simp; omega
        | some b =>
          have : 0 < (stAt rs k).length := by
            cases z : stAt rs k with
            | nil => rw [z] at e; cases e
            | cons a l => simp
          simp
          omega
      · split
        · rw [List.length_dropLast]; omega
        · exact ih
theorem any_eq {α : Type} {l : List α} {p q : α → Bool} (h : ∀ x ∈ l, p x = q x) : l.any p = l.any q := by
  induction l with
  | nil => rfl
  | cons a l ih => rw [List.any_cons, List.any_cons, h a List.mem_cons_self, ih fun x hx => h x (List.mem_cons_of_mem _ hx)]
/-! ### what waits behind it -/
theorem ex_sh {S : Nat → Bool} {rs : List Str} (g : Good rs) {k : Nat} (hk : k < rs.length) (hc : Cho S rs rs.length) (h : ¬ S k = true) : sh (ex S rs) (pos S k) = sh rs k := by
  obtain ⟨h1, _⟩ := ex_st g (Nat.le_of_lt hk) fun j hj => hc j (by omega)
  unfold sh
  rw [h1, fs_mapB, List.any_map]
  refine any_eq fun j hj => ?_
  obtain ⟨i, hi, hij⟩ := List.getElem_of_mem hj
  obtain ⟨_, _, r, hr, ho⟩ := fs_pre (Nat.le_of_lt hk) i j (by rw [List.getElem?_eq_getElem hi, hij])
  have hS : ¬ S j = true := fun e => by
    obtain ⟨⟨r', hr', hw⟩, _⟩ := hc j (List.getElem?_eq_some_iff.mp hr).1 e
    rw [hr] at hr'
    cases hr'
    obtain ⟨_, _, _, h4, h5, _⟩ := wt_facts r (inS_mem.mp hw)
    rw [h4, h5] at ho
    cases ho
  show decide ((ex S rs)[pos S j]? = _) = _
  rw [ex_f hr hS, hr]
theorem ex_wts {S : Nat → Bool} {rs : List Str} (g : Good rs) (hc : Cho S rs rs.length) : ∀ {k : Nat}, k ≤ rs.length → (List.range (pos S k)).filter (wtB (ex S rs)) = ((List.range k).filter fun j => wtB rs j && !S j).map (pos S)
  | 0, _ => rfl
  | k + 1, hk => by
    have ih := ex_wts (S := S) g hc (k := k) (by omega)
    have hr : rs[k]? = some rs[k] := List.getElem?_eq_getElem (by omega)
    generalize rs[k] = r at hr
    obtain ⟨s1, _⟩ := ex_st (S := S) g (k := k) (by omega) fun j hj => hc j (by omega)
    by_cases h : S k = true
    · obtain ⟨⟨r', hr', hw⟩, hd5⟩ := hc k (by omega) h
      rw [hr] at hr'
      cases hr'
      obtain ⟨e1, e2, e3⟩ := ex_t hr h
      have s2 : stAt (ex S rs) (pos S k + 1) = mapB S (stAt rs k) ++ [(pos S k, ("shield" : Str))] := by rw [st_succ e1, s1, shield_step]
      have n1 : ¬ wtB (ex S rs) (pos S k) = true := by
        unfold wtB
        rw [e1]
        have : inS WT "shield" = false := by decide +kernel
        simp [this]
      have n3 : ¬ wtB (ex S rs) (pos S k + 2) = true := by
        unfold wtB
        rw [e3]
        have : inS WT "end" = false := by decide +kernel
        simp [this]
      have n2 : ¬ wtB (ex S rs) (pos S k + 1) = true := by
        have : sh (ex S rs) (pos S k + 1) = true := by
          unfold sh
          rw [s2, List.any_eq_true]
          refine ⟨pos S k, ?_, decide_eq_true e1⟩
          unfold fs
          rw [List.map_append]
          simp
        unfold wtB
        rw [this]
        simp
      have nk : ¬ (fun j => wtB rs j && !S j) k = true := by
        show ¬ (wtB rs k && !S k) = true
        rw [h]
        simp
      rw [pos_t h, range_f (i := pos S k + 2) n3, range_f (i := pos S k + 1) n2, range_f (i := pos S k) n1, range_f nk, ih]
    · have e1 := ex_f hr h
      have ew : wtB (ex S rs) (pos S k) = wtB rs k := by
        unfold wtB
        rw [e1, hr, ex_sh g (by omega) hc h]
      rw [pos_f h]
      by_cases hw : wtB rs k = true
      · rw [range_t (by rw [ew]; exact hw), range_t (p := fun j => wtB rs j && !S j) (show (wtB rs k && !S k) = true by rw [hw, not_tt h]; rfl), ih, List.map_append]
        rfl
      · rw [range_f (by rw [ew]; exact hw), range_f (p := fun j => wtB rs j && !S j) (show ¬ (wtB rs k && !S k) = true by rw [not_tt hw]; simp), ih]
theorem ex_waits {S : Nat → Bool} {rs : List Str} (g : Good rs) (hc : Cho S rs rs.length) : wts (ex S rs) = ((wts rs).filter fun j => !S j).map (pos S) := by
  have h := ex_wts g hc (Nat.le_refl _)
  unfold wts
  rw [ex_len, h, List.filter_filter]
  congr 2
  funext j
  rw [Bool.and_comm]
/-! ### its rows and lists -/
theorem ex_drow {S : Nat → Bool} {rs ns : List Str} (h : ∀ r ∈ rs, DRow ns r) : ∀ r ∈ ex S rs, DRow ns r := by
  have : ∀ k, k ≤ rs.length → ∀ r ∈ exP S rs k, DRow ns r := fun k => by
    induction k with
    | zero => intro _ r hr; cases hr
    | succ k ih =>
      intro hk r hr
      have hx : rs[k]? = some rs[k] := List.getElem?_eq_getElem (by omega)
      have hd : DRow ns (rowAt rs k) := by
        unfold rowAt
        rw [hx]
        exact h _ (List.mem_of_getElem? hx)
      rcases List.mem_append.mp hr with hr | hr
      · exact ih (by omega) r hr
      · by_cases e : S k = true
        · rw [grp_t e] at hr
          simp only [List.mem_cons, List.not_mem_nil, or_false] at hr
          rcases hr with hr | hr | hr
          · rw [hr]; exact .inl (by decide +kernel)
          · rw [hr]; exact hd
          · rw [hr]; exact .inl (by decide +kernel)
        · rw [grp_f e] at hr
          rw [List.mem_singleton.mp hr]
          exact hd
  exact this _ (Nat.le_refl _)
theorem ex_secs {S : Nat → Bool} {rs : List Str} (hc : ∀ j, j < rs.length → S j = true → ∃ r, rs[j]? = some r ∧ inS WT r = true) : secs (ex S rs) = secs rs := by
  have nS : Txt.startswith "shield" "each " = false := by decide +kernel
  have nE : Txt.startswith "end" "each " = false := by decide +kernel
  have nW : ∀ r ∈ WT, Txt.startswith r "each " = false := by decide +kernel
  have app : ∀ a b : List Str, secs (a ++ b) = secs a ++ secs b := fun a b => by unfold secs; rw [List.filter_append, List.map_append]
  have : ∀ k, k ≤ rs.length → secs (exP S rs k) = secs (rs.take k) := fun k => by
    induction k with
    | zero => intro _; rfl
    | succ k ih =>
      intro hk
      have hx : rs[k]? = some rs[k] := List.getElem?_eq_getElem (by omega)
      have hr : rowAt rs k = rs[k] := by unfold rowAt; rw [hx]; rfl
      show secs (exP S rs k ++ grp S k (rowAt rs k)) = _
      rw [app, ih (by omega), List.take_succ, hx, hr]
      show _ = secs (rs.take k ++ [rs[k]])
      rw [app]
      by_cases e : S k = true
      · obtain ⟨r, hr', hw⟩ := hc k (by omega) e
        rw [hx] at hr'
        have hr' := Option.some.inj hr'
        have n := nW r (inS_mem.mp hw)
        rw [grp_t e, hr']
        congr 1
      · rw [grp_f e]
  have h := this rs.length (Nat.le_refl _)
  rw [List.take_length] at h
  exact h
theorem ex_lists {S : Nat → Bool} {rs ys : List Str} (hc : ∀ j, j < rs.length → S j = true → ∃ r, rs[j]? = some r ∧ inS WT r = true) : Lists (ex S rs) ys ↔ Lists rs ys := by
  unfold Lists
  rw [ex_secs hc]
end Fn

set_option Elab.async false
set_option linter.all false
set_option maxRecDepth 100000
set_option maxHeartbeats 2000000
/-! rows that are chosen to be shielded -/
namespace Fn
open PySem PySem.Spec PyProof.Rows L2 Ow ErX
theorem inV_int {s : Int} : ∀ {l : List Int}, inV (.int s) (l.map V.int) = decide (s ∈ l)
  | [] => rfl
  | y :: l => by
    show (eqV (.int y) (.int s) || inV (.int s) (l.map V.int)) = _
    rw [inV_int]
    by_cases e : y = s
    · subst e
      simp [eqV]
    · have : ¬ s = y := Ne.symm e
      simp [eqV, e, this]
theorem flatI (l : List Int) : (l.map V.int).all flatV = true := by
  induction l with
  | nil => rfl
  | cons a l ih => simp [flatV, ih]
def zI (l : List Nat) : List Int := l.map fun n : Nat => (n : Int)
theorem nV_zI (l : List Nat) : nV l = (zI l).map V.int := by unfold nV zI; rw [List.map_map]; rfl
theorem mem_zI {l : List Nat} {z : Int} : z ∈ zI l ↔ ∃ n ∈ l, (n : Int) = z := by unfold zI; exact List.mem_map
theorem zI_len (l : List Nat) : (zI l).length = l.length := by unfold zI; rw [List.length_map]
theorem zI_nodup {l : List Nat} (h : l.Nodup) : (zI l).Nodup := h.map (fun n : Nat => (n : Int)) fun a b n e => n (by omega)
def Sof (cs : List Int) (k : Nat) : Bool := decide ((k : Int) ∈ cs)
/-- the first i of the chosen rows can be cut, and none occurs twice -/
def ChoOk (rs : List Str) (cs : List Int) (i : Nat) : Prop := ∀ j, j < i → ∀ z, cs[j]? = some z → z ∈ zI (wts rs) ∧ z ∉ cs.take j
def CutAt (rs : List Str) (cs : List Int) (i : Nat) (z : Int) : Prop := ChoOk rs cs i ∧ cs[i]? = some z ∧ ¬ (z ∈ zI (wts rs) ∧ z ∉ cs.take i)
/-- what is left to be chosen -/
def lft (rs : List Str) (cs : List Int) (i : Nat) : List Int := (zI (wts rs)).filter fun z => !decide (z ∈ cs.take i)
theorem lft_0 (rs : List Str) (cs : List Int) : lft rs cs 0 = zI (wts rs) := by
  unfold lft
  rw [List.take_zero]
  simp
theorem lft_mem {rs : List Str} {cs : List Int} {i : Nat} {z : Int} : z ∈ lft rs cs i ↔ z ∈ zI (wts rs) ∧ z ∉ cs.take i := by
  unfold lft
  rw [List.mem_filter]
  simp
theorem wts_nodup (rs : List Str) : (wts rs).Nodup := List.nodup_range.filter _
theorem wts_lt {rs : List Str} {k : Nat} (h : k ∈ wts rs) : k < rs.length := List.mem_range.mp (List.mem_filter.mp h).1
theorem wts_wt {rs : List Str} {k : Nat} (h : k ∈ wts rs) : ∃ r, rs[k]? = some r ∧ inS WT r = true := by
  have h := (List.mem_filter.mp h).2
  unfold wtB at h
  cases e : rs[k]? with
  | none => rw [e] at h; cases h
  | some r =>
    rw [e, Bool.and_eq_true] at h
    exact ⟨r, rfl, h.1⟩
theorem lft_rm {rs : List Str} {cs : List Int} {i : Nat} {z : Int} (hz : cs[i]? = some z) (hm : z ∈ lft rs cs i) : ∃ j, (lft rs cs i)[j]? = some z ∧ (∀ m, m < j → (lft rs cs i)[m]? ≠ some z) ∧ (lft rs cs i).eraseIdx j = lft rs cs (i + 1) := by
  have nd : (lft rs cs i).Nodup := (zI_nodup (wts_nodup rs)).filter _
  refine ⟨(lft rs cs i).idxOf z, ?_, fun m hlt e => ?_, ?_⟩
  · have h := List.idxOf_lt_length_iff.mpr hm
    rw [List.getElem?_eq_getElem h, List.getElem_idxOf]
  · have hlen := (List.getElem?_eq_some_iff.mp e).1
    have n := List.not_of_lt_findIdx (show m < (lft rs cs i).findIdx (· == z) from hlt)
    rw [(List.getElem?_eq_some_iff.mp e).2] at n
    simp at n
  · rw [← List.erase_eq_eraseIdx_of_idxOf rfl, nd.erase_eq_filter]
    unfold lft
    rw [List.filter_filter, List.take_succ, hz]
    congr 1
    funext y
    by_cases e : y = z
    · simp [e]
    · simp [e, Ne.symm e]
theorem cho_nodup {rs : List Str} {cs : List Int} (h : ChoOk rs cs cs.length) : cs.Nodup := by
  rw [List.nodup_iff_pairwise_ne, List.pairwise_iff_getElem]
  intro i j hi hj hij e
  have := (h j hj _ (List.getElem?_eq_getElem hj)).2
  refine this ?_
  rw [← e, List.mem_take_iff_getElem]
  exact ⟨i, by omega, rfl⟩
theorem cho_mem {rs : List Str} {cs : List Int} (h : ChoOk rs cs cs.length) {z : Int} (hz : z ∈ cs) : ∃ k ∈ wts rs, (k : Int) = z := by
  obtain ⟨j, hj, e⟩ := List.getElem_of_mem hz
  exact mem_zI.mp (h j hj z (by rw [List.getElem?_eq_getElem hj, e])).1
theorem nodup_int {l m : List Int} (h1 : l.Nodup) (h2 : m.Nodup) (h : ∀ z, z ∈ l ↔ z ∈ m) : l.length = m.length := ((List.perm_ext_iff_of_nodup h1 h2).mpr h).length_eq
/-- how many of the chosen rows stand ahead of row k -/
theorem cnt_eq {rs : List Str} {cs : List Int} (h : ChoOk rs cs cs.length) (k : Nat) : cnt (Sof cs) k = (cs.filter fun z => decide (z < (k : Int))).length := by
  unfold cnt
  rw [← zI_len]
  refine nodup_int (zI_nodup (List.nodup_range.filter _)) ((cho_nodup h).filter _) fun z => ?_
  rw [mem_zI, List.mem_filter, decide_eq_true_eq]
  constructor
  · rintro ⟨n, hn, rfl⟩
    obtain ⟨h1, h2⟩ := List.mem_filter.mp hn
    have := List.mem_range.mp h1
    exact ⟨of_decide_eq_true h2, by omega⟩
  · rintro ⟨h1, h2⟩
    obtain ⟨n, _, rfl⟩ := cho_mem h h1
    exact ⟨n, List.mem_filter.mpr ⟨List.mem_range.mpr (by omega), decide_eq_true h1⟩, rfl⟩
theorem cnt_all {rs : List Str} {cs : List Int} (h : ChoOk rs cs cs.length) : cnt (Sof cs) rs.length = cs.length := by
  rw [cnt_eq h, List.filter_eq_self.mpr]
  intro z hz
  obtain ⟨n, hn, rfl⟩ := cho_mem h hz
  have := wts_lt hn
  exact decide_eq_true (by omega)
theorem exlen_eq {rs : List Str} {cs : List Int} (h : ChoOk rs cs cs.length) : (ex (Sof cs) rs).length = rs.length + 2 * cs.length := by
  rw [ex_len]
  unfold pos
  rw [cnt_all h]
theorem cho_wt {rs : List Str} {cs : List Int} (h : ChoOk rs cs cs.length) : ∀ j, j < rs.length → Sof cs j = true → ∃ r, rs[j]? = some r ∧ inS WT r = true := fun j _ hS => by
  obtain ⟨n, hn, e⟩ := cho_mem h (of_decide_eq_true hS)
  have : n = j := by omega
  subst this
  exact wts_wt hn
theorem cho_of {rs : List Str} {cs : List Int} (h : ChoOk rs cs cs.length) {k : Nat} (hk : k ≤ rs.length) (h5 : ∀ j, j < k → Sof cs j = true → (stAt rs j).length < 5) : Cho (Sof cs) rs k := fun j hj hS => ⟨cho_wt h j (by omega) hS, h5 j hj hS⟩
/-! ### the text of such rows -/
theorem joinL_app (S : List Nat) : ∀ {a b : List (List Nat)}, a ≠ [] → b ≠ [] → TL.joinL S (a ++ b) = TL.joinL S a ++ S ++ TL.joinL S b
  | [], _, h, _ => absurd rfl h
  | [x], [], _, h => absurd rfl h
  | [x], y :: b, _, _ => by
    show x ++ (S ++ TL.joinL S (y :: b)) = x ++ S ++ TL.joinL S (y :: b)
    rw [List.append_assoc]
  | x :: y :: a, b, _, hb => by
    have ih := joinL_app S (a := y :: a) (b := b) (by simp) hb
    show x ++ (S ++ TL.joinL S (y :: a ++ b)) = x ++ (S ++ TL.joinL S (y :: a)) ++ S ++ TL.joinL S b
    rw [ih]
    simp only [List.append_assoc]
/-- the text that stands for a row -/
def tx (S : Nat → Bool) (k : Nat) (r : Str) : Str := if S k = true then Txt.join "\n" [("shield" : Str), r, ("end" : Str)] else r
def txs (S : Nat → Bool) (rs : List Str) (k : Nat) : List Str := (List.range k).map fun j => tx S j (rowAt rs j)
theorem txs_succ (S : Nat → Bool) (rs : List Str) (k : Nat) : txs S rs (k + 1) = txs S rs k ++ [tx S k (rowAt rs k)] := by unfold txs; rw [List.range_succ, List.map_append]; rfl
theorem tx_grp (S : Nat → Bool) (k : Nat) (r : Str) : TL.tl (tx S k r) = TL.joinL (TL.tl "\n") ((grp S k r).map TL.tl) := by
  unfold tx grp
  by_cases h : S k = true
  · rw [if_pos h, if_pos h, TL.join_eq, TL.tl_join]
  · rw [if_neg h, if_neg h]; rfl
theorem grp_ne (S : Nat → Bool) (k : Nat) (r : Str) : (grp S k r).map TL.tl ≠ [] := by unfold grp; split <;> simp
theorem exP_ne {S : Nat → Bool} {rs : List Str} {k : Nat} : (exP S rs (k + 1)).map TL.tl ≠ [] := by
  show ((exP S rs k ++ grp S k (rowAt rs k)).map TL.tl) ≠ []
  rw [List.map_append]
  intro e
  exact grp_ne S k _ (List.append_eq_nil_iff.mp e).2
theorem tx_join (S : Nat → Bool) (rs : List Str) : ∀ k, TL.joinL (TL.tl "\n") ((txs S rs (k + 1)).map TL.tl) = TL.joinL (TL.tl "\n") ((exP S rs (k + 1)).map TL.tl)
  | 0 => by
    rw [txs_succ]
    show TL.joinL _ [TL.tl (tx S 0 (rowAt rs 0))] = TL.joinL _ (([] ++ grp S 0 (rowAt rs 0)).map TL.tl)
    rw [List.nil_append, ← tx_grp]
    rfl
  | k + 1 => by
    have ih := tx_join S rs k
    rw [txs_succ, List.map_append, joinL_app _ (by rw [txs_succ]; simp) (by simp), ih]
    show _ = TL.joinL _ ((exP S rs (k + 1) ++ grp S (k + 1) (rowAt rs (k + 1))).map TL.tl)
    rw [List.map_append, joinL_app _ exP_ne (grp_ne _ _ _), ← tx_grp]
    rfl
theorem tx_text {S : Nat → Bool} {rs : List Str} (h : rs ≠ []) : Txt.join "\n" (txs S rs rs.length) = Txt.join "\n" (ex S rs) := by
  obtain ⟨n, hn⟩ : ∃ n, rs.length = n + 1 := ⟨rs.length - 1, by have := List.length_pos_iff.mpr h; omega⟩
  refine TL.ext_tl ?_
  rw [TL.join_eq, TL.join_eq, TL.tl_join, TL.tl_join]
  unfold ex
  rw [hn]
  exact tx_join S rs n
theorem ex_ne {S : Nat → Bool} {rs : List Str} (h : rs ≠ []) : ex S rs ≠ [] := fun e => by
  have := ex_len S rs
  rw [e] at this
  have h2 := List.length_pos_iff.mpr h
  unfold pos at this
  simp at this
  omega
end Fn
namespace Fn
open PySem PySem.Spec PyProof.Rows L2 Ow ErX
theorem seq_orS {K : PySem.W.Frag} {H H1 : Hp} {r : Addr} {xs : List V} {R : It → Prop} (h : SqL K H r xs ∨ SqT K H r xs) (s1 : Same H H1)
    (k : ∀ J, Walk J xs.length (fun H' => Same H H') (YAt xs) → R J) : (SqL K H1 r xs ∧ R (Itl K r)) ∨ (SqT K H1 r xs ∧ R (Itt K r)) := by
  rcases h with q | q
  · exact .inl ⟨sqL_same q s1, k _ (walk_list.mono (fun H' s => sqL_same q s) fun _ _ _ _ _ _ y => y)⟩
  · exact .inr ⟨sqT_same q s1, k _ (walk_tup.mono (fun H' s => sqT_same q s) fun _ _ _ _ _ _ y => y)⟩
def spShielded (K : PySem.W.Frag) (C CB CT CN : Addr) : Sp := fun vs H Q E => ∃ (p dx c : Addr) (rs ys ns : List Str) (cs : List Int), vs = [.ref p, .ref c] ∧ FnIn C H p rs ys dx ∧ Good rs ∧ (∀ r ∈ rs, DRow ns r) ∧ ns.length ≤ 3 ∧ rs ≠ [] ∧ rs.length ≤ 24 ∧ (SqL K H c (cs.map V.int) ∨ SqT K H c (cs.map V.int)) ∧ cs.length ≤ 64 ∧ (∀ z ∈ cs, -1 ≤ z ∧ z < 10 ^ 60) ∧
  (∀ i z, CutAt rs cs i z → ∀ d H', H d = none → H' d = some (.xd [("row", .int z)]) → Same H H' → E (.ref CN) (some d) H') ∧
  (ChoOk rs cs cs.length → 24 < (ex (Sof cs) rs).length → ∀ d H', H d = none → H' d = some (.xd [("what", .str "rows")]) → Same H H' → E (.ref CT) (some d) H') ∧
  (ChoOk rs cs cs.length → (ex (Sof cs) rs).length ≤ 24 → ∀ m, Bad (ex (Sof cs) rs) m → ∀ d H', H d = none → H' d = some (.xd [("row", .int (m : Nat))]) → Same H H' → E (.ref CB) (some d) H') ∧
  (ChoOk rs cs cs.length → (ex (Sof cs) rs).length ≤ 24 → Good (ex (Sof cs) rs) → ∀ x dx' ys' H', H x = none → FnIn C H' x (ex (Sof cs) rs) ys' dx' → Lists (ex (Sof cs) rs) ys' → Same H H' → Q (.ref x) H')
theorem tx_lit (r : Str) : (((Str.empty ++ ("shield\n" : Str)) ++ r) ++ ("\nend" : Str)) = Txt.join "\n" [("shield" : Str), r, ("end" : Str)] := by
  refine TL.ext_tl ?_
  rw [TL.join_eq, TL.tl_join, TL.tl_append, TL.tl_append, TL.tl_append]
  have e0 : TL.tl Str.empty = [] := rfl
  have e1 : TL.tl ("shield\n" : Str) = TL.tl ("shield" : Str) ++ TL.tl ("\n" : Str) := by decide +kernel
  have e2 : TL.tl ("\nend" : Str) = TL.tl ("\n" : Str) ++ TL.tl ("end" : Str) := by decide +kernel
  rw [e0, e1, e2, List.nil_append]
  show _ = TL.tl ("shield" : Str) ++ (TL.tl ("\n" : Str) ++ (TL.tl r ++ (TL.tl ("\n" : Str) ++ TL.tl ("end" : Str))))
  simp only [List.append_assoc]
end Fn
namespace Fn
open PySem PySem.Spec PyProof.Rows L2 Ow ErX
theorem tx_len {S : Nat → Bool} {k : Nat} {r : Str} (h : r.length ≤ 16) : (tx S k r).length ≤ 40 := by
  unfold tx
  split
  · rw [← tx_lit]
    have e0 : Str.empty.length = 0 := rfl
    have e1 : ("shield\n" : Str).length = 7 := by decide +kernel
    have e2 : ("\nend" : Str).length = 4 := by decide +kernel
    simp only [PySem.Str.length_append, e0, e1, e2]
    omega
  · omega
theorem txs_sum {S : Nat → Bool} {rs : List Str} (h : ∀ r ∈ rs, r.length ≤ 16) : ∀ {k}, k ≤ rs.length → ((txs S rs k).map (·.length)).sum ≤ 40 * k
  | 0, _ => Nat.le_refl _
  | k + 1, hk => by
    have ih := txs_sum (S := S) h (k := k) (by omega)
    have hx : rs[k]? = some rs[k] := List.getElem?_eq_getElem (by omega)
    have hl : (rowAt rs k).length ≤ 16 := by
      unfold rowAt
      rw [hx]
      exact h _ (List.mem_of_getElem? hx)
    rw [txs_succ, List.map_append, List.sum_append]
    have := tx_len (S := S) (k := k) hl
    simp only [List.map_cons, List.map_nil, List.sum_cons, List.sum_nil]
    omega
theorem txs_len (S : Nat → Bool) (rs : List Str) (k : Nat) : (txs S rs k).length = k := by unfold txs; rw [List.length_map, List.length_range]
end Fn

set_option Elab.async false
set_option linter.all false
set_option maxRecDepth 100000
set_option maxHeartbeats 2000000
/-! what comes of a choice of rows -/
namespace Fn
open PySem PySem.Spec PyProof.Rows L2 Ow ErX
theorem cut_inj {rs : List Str} {cs : List Int} {i j : Nat} {y z : Int} (h : CutAt rs cs i y) (g : CutAt rs cs j z) : y = z := by
  have lt : ∀ {i j : Nat} {y z : Int}, CutAt rs cs i y → CutAt rs cs j z → ¬ i < j := fun {i j y z} h g l => h.2.2 (g.1 i l y h.2.1)
  have e : i = j := by
    have := lt h g
    have := lt g h
    omega
  subst e
  have := h.2.1
  rw [g.2.1] at this
  exact (Option.some.inj this).symm
theorem cut_cho {rs : List Str} {cs : List Int} {i : Nat} {z : Int} (h : CutAt rs cs i z) (g : ChoOk rs cs cs.length) : False :=
  h.2.2 (g i (List.getElem?_eq_some_iff.mp h.2.1).1 z h.2.1)
def DC (z : Int) : PyData := .tuple [.str "cut", .int z]
def DMr : PyData := .tuple [.str "many", .str "rows"]
def DWr (m : Nat) : PyData := .tuple [.str "wrong", .int (m : Nat)]
def DRr (rows : List Str) : PyData := .tuple [.str "rows", .tuple (datS rows)]
def Out (rs : List Str) (cs : List Int) (D : PyData) : Prop :=
  (∃ i z, CutAt rs cs i z ∧ D = DC z) ∨ (ChoOk rs cs cs.length ∧ 24 < (ex (Sof cs) rs).length ∧ D = DMr) ∨
  (ChoOk rs cs cs.length ∧ (ex (Sof cs) rs).length ≤ 24 ∧ ∃ m, Bad (ex (Sof cs) rs) m ∧ D = DWr m) ∨ (ChoOk rs cs cs.length ∧ (ex (Sof cs) rs).length ≤ 24 ∧ Good (ex (Sof cs) rs) ∧ D = DRr (ex (Sof cs) rs))
theorem out_inj {rs : List Str} {cs : List Int} {D D' : PyData} (h : Out rs cs D) (g : Out rs cs D') : D = D' := by
  rcases h with ⟨i, z, h1, h2⟩ | ⟨h1, h2, h3⟩ | ⟨h1, h2, m, h3, h4⟩ | ⟨h1, h2, h3, h4⟩
  · rcases g with ⟨j, y, g1, g2⟩ | ⟨g1, _⟩ | ⟨g1, _⟩ | ⟨g1, _⟩
    · rw [h2, g2, cut_inj h1 g1]
    · exact (cut_cho h1 g1).elim
    · exact (cut_cho h1 g1).elim
    · exact (cut_cho h1 g1).elim
  · rcases g with ⟨j, y, g1, g2⟩ | ⟨g1, g2, g3⟩ | ⟨g1, g2, _⟩ | ⟨g1, g2, _⟩
    · exact (cut_cho g1 h1).elim
    · rw [h3, g3]
    · omega
    · omega
  · rcases g with ⟨j, y, g1, g2⟩ | ⟨g1, g2, g3⟩ | ⟨g1, g2, n, g3, g4⟩ | ⟨g1, g2, g3, g4⟩
    · exact (cut_cho g1 h1).elim
    · omega
    · rw [h4, g4, bad_inj h3 g3]
    · exact (bad_good h3 g3).elim
  · rcases g with ⟨j, y, g1, g2⟩ | ⟨g1, g2, g3⟩ | ⟨g1, g2, n, g3, g4⟩ | ⟨g1, g2, g3, g4⟩
    · exact (cut_cho g1 h1).elim
    · omega
    · exact (bad_good g3 h3).elim
    · rw [h4, g4]
theorem eqv_s (l : List Str) : PyData.eqvAll (datS l) (datS l) = true := by
  induction l with
  | nil => rfl
  | cons x l ih =>
    show (PyData.eqv (.str x) (.str x) && PyData.eqvAll (datS l) (datS l)) = true
    rw [ih]
    have : PyData.eqv (.str x) (.str x) = (x == x) := rfl
    rw [this, beq_self_eq_true]
    rfl
theorem eqv_pair {a : Str} {d : PyData} (h : PyData.eqv d d = true) : PyData.eqv (.tuple [.str a, d]) (.tuple [.str a, d]) = true := by
  show ((a == a) && (PyData.eqv d d && true)) = true
  rw [beq_self_eq_true, h]
  rfl
theorem shaped_pair {a : Str} {d : PyData} (ha : PyData.strOk a = true) (h : PyData.canLay0 d = true) (hd : PyData.depth d ≤ 3) : SeqAt.shaped (.tuple [.str a, d]) = true := by
  have h1 : PyData.canLay0 (.tuple [.str a, d]) = true := by
    show (PyData.strOk a && (PyData.canLay0 d && true)) = true
    rw [ha, h]
    rfl
  unfold SeqAt.shaped
  rw [h1, Bool.true_and, decide_eq_true_eq]
  show max (PyData.depth (.str a)) (max (PyData.depth d) 0) + 1 ≤ 64
  have : PyData.depth (.str a) = 0 := rfl
  omega
theorem out_ok {rs ns : List Str} {cs : List Int} {D : PyData} (hD : ∀ r ∈ rs, DRow ns r) (h : Out rs cs D) : PyData.eqv D D = true ∧ SeqAt.shaped D = true := by
  have ci : ∀ z : Int, PyData.eqv (.int z) (.int z) = true := fun z => by
    have : PyData.eqv (.int z) (.int z) = (z == z) := rfl
    rw [this, beq_self_eq_true]
  rcases h with ⟨i, z, _, rfl⟩ | ⟨_, _, rfl⟩ | ⟨_, _, m, _, rfl⟩ | ⟨_, _, _, rfl⟩
  · exact ⟨eqv_pair (ci z), shaped_pair (by decide +kernel) rfl (Nat.zero_le _)⟩
  · exact ⟨by decide +kernel, by decide +kernel⟩
  · exact ⟨eqv_pair (ci _), shaped_pair (by decide +kernel) rfl (Nat.zero_le _)⟩
  · refine ⟨eqv_pair (eqv_s _), shaped_pair (by decide +kernel) (rk_can fun r hr => drow_rk (ex_drow hD r hr)) ?_⟩
    show PyData.depthAll (datS _) + 1 ≤ 3
    rw [depth_s]
    decide
/-- a pair of a word and a thing -/
def Res (K : PySem.W.Frag) (H : Hp) (v : V) (D : PyData) : Prop := ∃ t nm x d, v = .ref t ∧ H t = some (.tup [.str nm, x]) ∧ D = .tuple [.str nm, d] ∧ ∀ H', Same H H' → Dp K H' x d
theorem Res.same {K : PySem.W.Frag} {H H' : Hp} {v : V} {D : PyData} (h : Res K H v D) (s : Same H H') : Res K H' v D := by
  obtain ⟨t, nm, x, d, h1, h2, h3, h4⟩ := h
  exact ⟨t, nm, x, d, h1, s _ _ h2, h3, fun H2 s2 => h4 H2 (same_trans s s2)⟩
theorem Res.dp {K : PySem.W.Frag} {H : Hp} {v : V} {D : PyData} (h : Res K H v D) : Dp K H v D := by
  obtain ⟨t, nm, x, d, rfl, h2, rfl, h4⟩ := h
  exact .tup (SqT.of h2) (.cons (.str _) (.cons (h4 H fun _ _ e => e) .nil))
def spLShield (K : PySem.W.Frag) : Sp := fun vs H Q _ => ∃ (p c : Addr) (rs : List Str) (cs : List Int), vs = [.ref p, .ref c] ∧ SqL K H p (rs.map V.str) ∧ SqL K H c (cs.map V.int) ∧ rs.length ≤ 24 ∧ ∀ q H', H q = none → H' q = some (.lst ((ex (Sof cs) rs).map V.str)) → Same H H' → Q (.ref q) H'
def spDeep (C : Addr) : Sp := fun vs H Q _ => ∃ (p dx : Addr) (rs ys : List Str) (k : Nat), vs = [.ref p, .int (k : Nat)] ∧ FnIn C H p rs ys dx ∧ k < rs.length ∧ ∀ H', Same H H' → Q (.int ((stAt rs k).length : Nat)) H'
def spDue (K : PySem.W.Frag) (C : Addr) : Sp := fun vs H Q _ => ∃ (p dx r c : Addr) (rs ys : List Str) (cs : List Int), vs = [.ref p, .ref r, .ref c] ∧ FnIn C H p rs ys dx ∧ SqL K H r (rs.map V.str) ∧ H c = some (.lst (cs.map V.int)) ∧ Good rs ∧ rs.length ≤ 24 ∧ cs.length ≤ 24 ∧ ∀ v D H', Out rs cs D → Res K H' v D → Same H H' → Q v H'
def spTold (K : PySem.W.Frag) (C : Addr) : Sp := fun vs H Q _ => ∃ (p dx c : Addr) (rs ys ns : List Str) (cs : List Int), vs = [.ref p, .ref c] ∧ FnIn C H p rs ys dx ∧ Good rs ∧ (∀ r ∈ rs, DRow ns r) ∧ ns.length ≤ 3 ∧ rs ≠ [] ∧ rs.length ≤ 24 ∧ (SqL K H c (cs.map V.int) ∨ SqT K H c (cs.map V.int)) ∧ cs.length ≤ 24 ∧ (∀ z ∈ cs, -1 ≤ z ∧ z < 10 ^ 60) ∧ ∀ v D H', Out rs cs D → Res K H' v D → Same H H' → Q v H'
/-- the least chosen row that cannot be put into one block more -/
theorem least_five {rs : List Str} {cs : List Int} (g : Good rs) (h : ChoOk rs cs cs.length) {k : Nat} (hk : k < rs.length) (hS : Sof cs k = true) (h5 : 5 ≤ (stAt rs k).length) (hl : ∀ j, j < k → Sof cs j = true → (stAt rs j).length < 5) : Bad (ex (Sof cs) rs) (pos (Sof cs) k) :=
  ex_bad g hk (cho_of h (Nat.le_of_lt hk) hl) hS h5
theorem none_five {rs : List Str} {cs : List Int} (g : Good rs) (h : ChoOk rs cs cs.length) (hl : ∀ j, j < rs.length → Sof cs j = true → (stAt rs j).length < 5) : Good (ex (Sof cs) rs) ∧ Cho (Sof cs) rs rs.length :=
  ⟨ex_good g (cho_of h (Nat.le_refl _) hl), cho_of h (Nat.le_refl _) hl⟩
end Fn
namespace Fn
open PySem PySem.Spec PyProof.Rows L2
theorem pi_listK {X : Cx} {K : PySem.W.Frag} (hK : X.K = K) {tg l : Expr} {tl : TE} (hl : PE X l tl) : PI X tg l (iList K tl) := by
  subst hK
  exact pi_list hl
def rLenS (K : PySem.W.Frag) : List V → Hp → VK → Prop := fun xs H Q => ∃ p ys, xs = [V.ref p] ∧ (SqL K H p ys ∨ SqT K H p ys) ∧ Q (.int (ys.length : Nat)) H
theorem call_lenK {X : Cx} {K : PySem.W.Frag} (hK : X.K = K) : CallR X (.builtin "len") (rLenS K) := by
  subst hK
  exact call_len_seq
end Fn
namespace Fn
open PySem PySem.Spec PyProof.Rows L2
def datZ (l : List Int) : List PyData := l.map fun n => .int n
theorem dpAll_z {K : PySem.W.Frag} {H : Hp} : ∀ l : List Int, DpAll K H (l.map V.int) (datZ l)
  | [] => .nil
  | n :: l => .cons (.int _) (dpAll_z l)
theorem can_z : ∀ l : List Int, PyData.canLayAll0 (datZ l) = true
  | [] => rfl
  | n :: l => can_z l
theorem depth_z : ∀ l : List Int, PyData.depthAll (datZ l) = 0
  | [] => rfl
  | n :: l => by
    have := depth_z l
    show max (PyData.depth (.int n)) (PyData.depthAll (datZ l)) = 0
    rw [this]
    rfl
theorem shaped_z (l : List Int) : SeqAt.shaped (.list (datZ l)) = true := by
  have h1 : PyData.canLay0 (.list (datZ l)) = true := can_z l
  have h2 := depth_z l
  unfold SeqAt.shaped
  rw [h1, Bool.true_and, decide_eq_true_eq]
  show PyData.depthAll (datZ l) + 1 ≤ 64
  omega
theorem eqvZ_nil (l : List Int) : PyData.eqv (.list (datZ l)) (.list []) = l.isEmpty := by cases l <;> rfl
theorem eqvZ_self (l : List Int) : PyData.eqv (.list (datZ l)) (.list (datZ l)) = true := by
  have : ∀ l : List Int, PyData.eqvAll (datZ l) (datZ l) = true := fun l => by
    induction l with
    | nil => rfl
    | cons n l ih =>
      show (PyData.eqv (.int n) (.int n) && PyData.eqvAll (datZ l) (datZ l)) = true
      rw [ih]
      have : PyData.eqv (.int n) (.int n) = (n == n) := rfl
      rw [this, beq_self_eq_true]
      rfl
  exact this l
theorem filt_succ {l : List Int} {f : Int → Bool} {i : Nat} {y : Int} (h : l[i]? = some y) : (l.take (i + 1)).filter f = (l.take i).filter f ++ (if f y = true then [y] else []) := by
  rw [List.take_succ, h, List.filter_append]
  by_cases e : f y = true
  · simp [e]
  · simp [e]
end Fn
namespace Fn
open PySem PySem.Spec PyProof.Rows L2
theorem cho_good {rs : List Str} {cs : List Int} (g : Good rs) (h : ChoOk rs cs cs.length) (gx : Good (ex (Sof cs) rs)) : ∀ k, k ≤ rs.length → Cho (Sof cs) rs k
  | 0, _ => fun j hj => absurd hj (Nat.not_lt_zero j)
  | k + 1, hk => fun j hj hS => by
    have ih := cho_good g h gx k (by omega)
    by_cases e : j = k
    · subst e
      refine ⟨cho_wt h j (by omega) hS, ?_⟩
      by_cases h5 : (stAt rs j).length < 5
      · exact h5
      · exact (bad_good (ex_bad g (by omega) ih hS (by omega)) gx).elim
    · exact ih j (by omega) hS
def kpt (rs : List Str) (cs : List Int) : List Nat := (wts rs).filter fun j => !Sof cs j
theorem kpt_z (rs : List Str) (cs : List Int) : (zI (wts rs)).filter (fun z => !decide (z ∈ cs)) = zI (kpt rs cs) := by
  unfold kpt zI Sof
  rw [List.filter_map]
  rfl
theorem out_rows {rs : List Str} {cs : List Int} {d : PyData} {nm : Str} (h : Out rs cs (.tuple [.str nm, d])) (e : nm = "rows") : ChoOk rs cs cs.length ∧ (ex (Sof cs) rs).length ≤ 24 ∧ Good (ex (Sof cs) rs) := by
  subst e
  rcases h with ⟨i, z, _, h⟩ | ⟨_, _, h⟩ | ⟨_, _, m, _, h⟩ | ⟨h1, h2, h3, _⟩
  · have h : PyData.tuple [.str "rows", d] = .tuple [.str "cut", .int z] := h
    injection h with h
    injection h with h
    injection h with h
    exact absurd h (by decide +kernel)
  · have h : PyData.tuple [.str "rows", d] = .tuple [.str "many", .str "rows"] := h
    injection h with h
    injection h with h
    injection h with h
    exact absurd h (by decide +kernel)
  · have h : PyData.tuple [.str "rows", d] = .tuple [.str "wrong", .int (m : Nat)] := h
    injection h with h
    injection h with h
    injection h with h
    exact absurd h (by decide +kernel)
  · exact ⟨h1, h2, h3⟩
end Fn

set_option Elab.async false
set_option linter.all false
set_option maxRecDepth 100000
set_option maxHeartbeats 1000000
namespace Fn
open PySem PySem.Spec PyProof.Rows L2 Ow ErX
theorem kd_mid {K : PySem.W.Frag} {AM : Addr} {esM : Array DictEntry} {nM : Nat} {d1 d2 d3 : DictEntry} {t1 t2 t3 u1 u2 u3 : Tok} (lM : K.lookup AM = some ⟨.type "dict", none, .dict esM nM, #[]⟩) (e3 : esM = #[d1, d2, d3])
    (k1 : d1.key = .str "else" t1) (k2 : d2.key = .str "finally" t2) (k3 : d3.key = .str "rescue" t3) (v1 : d1.val = .str "maybe" u1) (v2 : d2.val = .str "try" u2) (v3 : d3.val = .str "try" u3) :
    ∀ z, ∃ r, PySem.W.nsIn K AM z = some r ∧ r.isSome = (mid z).isSome ∧ ∀ v, mid z = some v → ∃ t, r = some (.str v t) := by
  intro z
  unfold PySem.W.nsIn
  rw [lM, e3]
  have f1 : d1.key.isStr z = (("else" : Str) == z) := by rw [k1]; rfl
  have f2 : d2.key.isStr z = (("finally" : Str) == z) := by rw [k2]; rfl
  have f3 : d3.key.isStr z = (("rescue" : Str) == z) := by rw [k3]; rfl
  have r1 : d1.refKey = false := by unfold DictEntry.refKey; rw [k1]
  have r2 : d2.refKey = false := by unfold DictEntry.refKey; rw [k2]
  have r3 : d3.refKey = false := by unfold DictEntry.refKey; rw [k3]
  unfold mid
  by_cases h1 : z = "else"
  · rw [if_pos h1]
    have b1 : d1.key.isStr z = true := by rw [f1, h1]; exact beq_self_eq_true _
    refine ⟨some d1.val, by simp [List.find?, b1], rfl, fun v e => ?_⟩
    cases e
    exact ⟨u1, by rw [v1]⟩
  · rw [if_neg h1]
    have b1 : d1.key.isStr z = false := by rw [f1]; exact beq_false_of_ne (Ne.symm h1)
    by_cases h2 : z = "finally"
    · rw [if_pos h2]
      have b2 : d2.key.isStr z = true := by rw [f2, h2]; exact beq_self_eq_true _
      refine ⟨some d2.val, by simp [List.find?, b1, b2], rfl, fun v e => ?_⟩
      cases e
      exact ⟨u2, by rw [v2]⟩
    · rw [if_neg h2]
      have b2 : d2.key.isStr z = false := by rw [f2]; exact beq_false_of_ne (Ne.symm h2)
      by_cases h3 : z = "rescue"
      · rw [if_pos h3]
        have b3 : d3.key.isStr z = true := by rw [f3, h3]; exact beq_self_eq_true _
        refine ⟨some d3.val, by simp [List.find?, b1, b2, b3], rfl, fun v e => ?_⟩
        cases e
        exact ⟨u3, by rw [v3]⟩
      · rw [if_neg h3]
        have b3 : d3.key.isStr z = false := by rw [f3]; exact beq_false_of_ne (Ne.symm h3)
        exact ⟨none, by simp [List.find?, b1, b2, b3, r1, r2, r3], rfl, fun v e => by cases e⟩
theorem fnD_of {K : PySem.W.Frag} {w : World} {mg : Str → Option Value} {AO AP AS AT AM : Addr} {esM : Array DictEntry} {nM : Nat} {d1 d2 d3 : DictEntry} {t1 t2 t3 u1 u2 u3 : Tok} (gO : mg "OPENERS" = some (.ref AO)) (gP : mg "PLAIN" = some (.ref AP)) (gS : mg "SINGLE" = some (.ref AS)) (gT : mg "TRIES" = some (.ref AT)) (gM : mg "MIDDLES" = some (.ref AM))
    (sO : ∀ H, SqT K H AO (OPN.map V.str)) (sP : ∀ H, SqT K H AP (PLN.map V.str)) (sS : ∀ H, SqT K H AS (SNG.map V.str)) (sT : ∀ H, SqT K H AT (TRI.map V.str))
    (lM : K.lookup AM = some ⟨.type "dict", none, .dict esM nM, #[]⟩) (e3 : esM = #[d1, d2, d3])
    (k1 : d1.key = .str "else" t1) (k2 : d2.key = .str "finally" t2) (k3 : d3.key = .str "rescue" t3) (v1 : d1.val = .str "maybe" u1) (v2 : d2.val = .str "try" u2) (v3 : d3.val = .str "try" u3)
    (h1 : d1.hash = PyData.keyHash w.params "else") (h2 : d2.hash = PyData.keyHash w.params "finally") (h3 : d3.hash = PyData.keyHash w.params "rescue") (low : (AM == sysModules) = false) : FnD K w mg AO AP AS AT AM esM nM := by
  have hk := kd_mid lM e3 k1 k2 k3 v1 v2 v3
  have hl : PySem.W.KeysLit w.params esM.toList := by
    rw [e3]
    exact ⟨⟨_, _, k1, h1⟩, ⟨_, _, k2, h2⟩, ⟨_, _, k3, h3⟩, trivial⟩
  refine ⟨gO, gP, gS, gT, gM, sO, sP, sS, sT, ⟨lM, hl, low⟩, fun z => ?_, fun z v e => ?_⟩
  · obtain ⟨r, a, b, _⟩ := hk z
    exact ⟨r, a, b⟩
  · obtain ⟨r, a, _, c⟩ := hk z
    obtain ⟨t, ht⟩ := c v e
    exact ⟨esM, nM, _, lM, hl, by rw [a, ht], ⟨t, rfl⟩⟩
end Fn

set_option Elab.async false
set_option linter.all false
set_option maxRecDepth 100000
set_option maxHeartbeats 2000000
/-! what k16 is told -/
namespace Fn
open PySem PySem.Spec PyProof.Rows L2 Ow ErX
def DM (s : Str) : PyData := .tuple [.str "many", .str s, .bool true]
def DW (i : Int) : PyData := .tuple [.str "wrong", .int i, .bool true]
def DR (n : Nat) (ys : List Str) : PyData := .tuple [.str "rows", .int (n : Nat), .tuple (datS ys)]
def Told (rs : List Str) (D : PyData) : Prop := (24 < rs.length ∧ D = DM "rows") ∨ (rs.length ≤ 24 ∧ ∃ n : Nat, Bad rs n ∧ D = DW n) ∨ (rs.length ≤ 24 ∧ Good rs ∧ ∃ ys, Lists rs ys ∧ ((3 < ys.length ∧ D = DM "lists") ∨ (ys.length ≤ 3 ∧ D = DR rs.length ys)))
theorem lists_inj {rs ys zs : List Str} (h : Lists rs ys) (g : Lists rs zs) : ys = zs :=
  (srt_iff (List.Perm.refl ys) (List.Perm.refl zs) h.1 g.1).mpr ((List.perm_ext_iff_of_nodup h.2.1 g.2.1).mpr fun z => (h.2.2 z).trans (g.2.2 z).symm)
/-- the first place of the kind p -/
def fst (p : Nat → Bool) (n : Nat) : Option Nat := (List.range n).find? p
def fstV (p : Nat → Bool) (n : Nat) : V := match fst p n with | some k => .int (k : Nat) | none => .non
theorem fst_at (p : Nat → Bool) (n : Nat) : atI (((List.range n).filter p).map (fun k : Nat => V.int (k : Nat)) ++ [V.non]) 0 = some (fstV p n) := by
  refine atI_nat (j := 0) ?_
  have h : ((List.range n).filter p).head? = fst p n := List.head?_filter
  unfold fstV
  rw [← h]
  cases (List.range n).filter p with
  | nil => rfl
  | cons a l => rfl
theorem fst_some {p : Nat → Bool} {n k : Nat} (hk : k < n) (h : p k = true) (hn : ∀ j, j < k → p j = false) : fst p n = some k := by
  unfold fst
  rw [List.find?_range_eq_some]
  refine ⟨h, List.mem_range.mpr hk, fun j hj => ?_⟩
  rw [hn j hj]
  rfl
theorem fst_none {p : Nat → Bool} {n : Nat} (hn : ∀ j, j < n → p j = false) : fst p n = none := by
  unfold fst
  rw [List.find?_eq_none]
  intro j hj
  rw [hn j (List.mem_range.mp hj)]
  decide
theorem fst_inv {p : Nat → Bool} {n : Nat} : (∃ k, k < n ∧ fst p n = some k ∧ p k = true ∧ ∀ j, j < k → p j = false) ∨ (fst p n = none ∧ ∀ j, j < n → p j = false) := by
  cases h : fst p n with
  | none =>
    refine .inr ⟨rfl, fun j hj => ?_⟩
    unfold fst at h
    rw [List.find?_eq_none] at h
    have := h j (List.mem_range.mpr hj)
    simpa using this
  | some k =>
    unfold fst at h
    rw [List.find?_range_eq_some] at h
    obtain ⟨h1, h2, h3⟩ := h
    refine .inl ⟨k, List.mem_range.mp h2, rfl, h1, fun j hj => ?_⟩
    have := h3 j hj
    simpa using this
/-! ### flat rows -/
def pF (rs : List Str) (k : Nat) : Bool := !decide (rs[k]? = some "ask")
def dueF (rs : List Str) : PyData := match fst (pF rs) rs.length with | some k => DW k | none => DR rs.length []
theorem flat_case {rs : List Str} (hF : ∀ r ∈ rs, r ∈ FL) : (∃ k : Nat, fst (pF rs) rs.length = some k ∧ Bad rs k) ∨ (fst (pF rs) rs.length = none ∧ Good rs ∧ Lists rs []) := by
  rcases fst_inv (p := pF rs) (n := rs.length) with ⟨k, h1, h2, h3, h4⟩ | ⟨h1, h2⟩
  · refine .inl ⟨k, h2, ?_⟩
    have hr : rs[k]? = some rs[k] := List.getElem?_eq_getElem h1
    refine flat_bad hF (fun j hj => ?_) hr fun e => ?_
    · have := h4 j hj
      unfold pF at this
      simpa using this
    · unfold pF at h3
      rw [hr, e] at h3
      simp at h3
  · have ha : ∀ j, j < rs.length → rs[j]? = some "ask" := fun j hj => by
      have := h2 j hj
      unfold pF at this
      simpa using this
    refine .inr ⟨h1, flat_good ha, rfl, .nil, fun z => ⟨fun h => (by cases h), fun h => ?_⟩⟩
    obtain ⟨r, hr, _⟩ := List.mem_map.mp h
    obtain ⟨hr, hst⟩ := List.mem_filter.mp hr
    obtain ⟨j, hj, e⟩ := List.getElem_of_mem hr
    have := ha j hj
    rw [List.getElem?_eq_getElem hj, e] at this
    cases this
    exact absurd hst (by decide +kernel)
theorem told_flat {rs : List Str} (hF : ∀ r ∈ rs, r ∈ FL) {D : PyData} (h : Told rs D) : D = if 24 < rs.length then DM "rows" else dueF rs := by
  rcases h with ⟨h1, h2⟩ | ⟨h1, n, h2, h3⟩ | ⟨h1, h2, ys, h3, h4⟩
  · rw [if_pos h1, h2]
  · rw [if_neg (by omega), h3]
    unfold dueF
    rcases flat_case hF with ⟨k, e, b⟩ | ⟨e, g, _⟩
    · rw [e, bad_inj h2 b]
    · exact (bad_good h2 g).elim
  · rw [if_neg (by omega)]
    unfold dueF
    rcases flat_case hF with ⟨k, e, b⟩ | ⟨e, g, l⟩
    · exact (bad_good b h2).elim
    · rw [e]
      have := lists_inj h3 l
      subst this
      rcases h4 with ⟨h4, _⟩ | ⟨_, h4⟩
      · exact absurd h4 (by decide)
      · exact h4
theorem told_more {rs : List Str} (hF : ∀ r ∈ rs, r ∈ FL) (hn : rs.length < 24) (hf : fst (pF rs) rs.length = none) {D : PyData} (h : Told (rs ++ [("" : Str)]) D) : D = DW rs.length := by
  have ha : ∀ j, j < rs.length → (rs ++ [("" : Str)])[j]? = some "ask" := fun j hj => by
    rcases fst_inv (p := pF rs) (n := rs.length) with ⟨k, _, h2, _, _⟩ | ⟨_, h2⟩
    · rw [hf] at h2; cases h2
    · have := h2 j hj
      unfold pF at this
      rw [List.getElem?_append_left hj]
      simpa using this
  have b : Bad (rs ++ [("" : Str)]) rs.length := flat_bad (fun r hr => (List.mem_append.mp hr).elim (hF r) fun h => by rw [List.mem_singleton.mp h]; decide +kernel) ha (r := "") (by rw [List.getElem?_append_right (Nat.le_refl _), Nat.sub_self]; rfl) (by decide +kernel)
  have hl : (rs ++ [("" : Str)]).length ≤ 24 := by rw [List.length_append]; exact hn
  rcases h with ⟨h1, h2⟩ | ⟨h1, n, h2, h3⟩ | ⟨h1, h2, ys, h3, h4⟩
  · omega
  · rw [h3, bad_inj h2 b]
  · exact (bad_good b h2).elim
theorem told_one {D : PyData} (h : Told [("" : Str)] D) : D = DW 0 := by
  have := told_more (rs := []) (fun r h => by cases h) (by decide) rfl h
  exact this
/-! ### lists -/
def pL (rs : List Str) (k : Nat) : Bool := decide (rs[k]? = some "each") || (decide (rs[k]? = some "end") && decide (k % 2 = 0))
theorem lists_case {pre t : List Str} {k : Nat} (hB : Blk pre k) (hl : pre.length = 2 * k) (h3 : TL3 t) : (∃ n : Nat, fst (pL (pre ++ t)) (pre ++ t).length = some n ∧ Bad (pre ++ t) n) ∨ (fst (pL (pre ++ t)) (pre ++ t).length = none ∧ Good (pre ++ t)) := by
  have hB2 : Blk (pre ++ t) k := fun i hi => by
    obtain ⟨⟨x, c1, c2⟩, c3⟩ := hB i hi
    refine ⟨⟨x, c1, ?_⟩, ?_⟩
    · rw [List.getElem?_append_left (by omega)]; exact c2
    · rw [List.getElem?_append_left (by omega)]; exact c3
  obtain ⟨s1, s2⟩ := blk_st hB2 (Nat.le_refl k)
  have low : ∀ j, j < 2 * k → pL (pre ++ t) j = false := fun j hj => by
    obtain ⟨⟨x, c1, c2⟩, c3⟩ := hB2 (j / 2) (by omega)
    have hx : ∀ x ∈ EA6, x ≠ "each" ∧ x ≠ "end" := by decide +kernel
    unfold pL
    rcases (show j = 2 * (j / 2) ∨ j = 2 * (j / 2) + 1 by omega) with e | e
    · rw [← e] at c2
      rw [c2]
      simp [(hx x c1).1, (hx x c1).2]
    · rw [← e] at c3
      rw [c3, decide_eq_false (show ¬ j % 2 = 0 by omega)]
      have : ¬ ("end" : Str) = "each" := by decide +kernel
      simp [this]
  have g0 : ∀ {x : Str} {l : List Str}, t = x :: l → (pre ++ t)[2 * k]? = some x := fun {x l} e => by
    rw [List.getElem?_append_right (by omega), hl, Nat.sub_self, e]
    rfl
  have g1 : ∀ {x y : Str} {l : List Str}, t = x :: y :: l → (pre ++ t)[2 * k + 1]? = some y := fun {x y l} e => by
    rw [List.getElem?_append_right (by omega), hl, show 2 * k + 1 - 2 * k = 1 by omega, e]
    rfl
  have len : (pre ++ t).length = 2 * k + t.length := by rw [List.length_append, hl]
  have pause0 : (pre ++ t)[2 * k]? = some "pause" → pL (pre ++ t) (2 * k) = false ∧ ¬ NotOk (pre ++ t) (2 * k) ∧ stAt (pre ++ t) (2 * k + 1) = [] := fun e => by
    refine ⟨?_, ?_, ?_⟩
    · unfold pL
      rw [e]
      have h1 : ¬ ("pause" : Str) = "each" := by decide +kernel
      have h2 : ¬ ("pause" : Str) = "end" := by decide +kernel
      simp [h1, h2]
    · rintro ⟨r, hr, hw⟩
      rw [e] at hr
      cases hr
      rw [s1] at hw
      have := blk_facts.2.2.1
      unfold sn at hw
      rw [List.map_nil, this] at hw
      cases hw
    · rw [st_succ e, s1, step_pause]
  rcases h3 with h | h | h
  · obtain ⟨p1, p2, p3⟩ := pause0 (g0 h)
    refine .inr ⟨fst_none fun j hj => ?_, fun j hj => ?_, ?_⟩
    · rw [len, h] at hj
      by_cases z : j = 2 * k
      · rw [z]; exact p1
      · exact low j (by simp at hj; omega)
    · rw [len, h] at hj
      by_cases z : j = 2 * k
      · rw [z]; exact p2
      · exact s2 j (by simp at hj; omega)
    · rw [len, h]
      subst h
      exact p3
  · refine .inl ⟨2 * k, fst_some (by rw [len, h]; simp) ?_ low, s2, .inl ⟨"end", g0 h, ?_⟩⟩
    · unfold pL
      rw [g0 h, decide_eq_true (show 2 * k % 2 = 0 by omega)]
      simp
    · rw [s1]
      exact blk_facts.2.2.2.1
  · obtain ⟨p1, p2, p3⟩ := pause0 (g0 h)
    refine .inl ⟨2 * k + 1, fst_some (by rw [len, h]; simp) ?_ fun j hj => ?_, fun j hj => ?_, .inl ⟨"each", g1 h, ?_⟩⟩
    · unfold pL
      rw [g1 h]
      simp
    · by_cases z : j = 2 * k
      · rw [z]; exact p1
      · exact low j (by omega)
    · by_cases z : j = 2 * k
      · rw [z]; exact p2
      · exact s2 j (by omega)
    · rw [p3]
      exact blk_facts.2.2.2.2.1
def dueL (rs ys : List Str) : PyData := match fst (pL rs) rs.length with | some k => DW k | none => if 3 < ys.length then DM "lists" else DR rs.length ys
theorem told_lists {pre t ys : List Str} {k : Nat} (hB : Blk pre k) (hl : pre.length = 2 * k) (hk : k ≤ 8) (h3 : TL3 t) (hL : Lists (pre ++ t) ys) {D : PyData} (h : Told (pre ++ t) D) : D = dueL (pre ++ t) ys := by
  have len : (pre ++ t).length ≤ 24 := by
    rw [List.length_append, hl]
    have : t.length ≤ 2 := by rcases h3 with h | h | h <;> rw [h] <;> decide
    omega
  unfold dueL
  rcases lists_case hB hl h3 with ⟨n, e, b⟩ | ⟨e, g⟩
  · rw [e]
    rcases h with ⟨h1, h2⟩ | ⟨h1, n', h2, h3⟩ | ⟨h1, h2, ys, h3, h4⟩
    · omega
    · rw [h3, bad_inj h2 b]
    · exact (bad_good b h2).elim
  · rw [e]
    rcases h with ⟨h1, h2⟩ | ⟨h1, n', h2, h3⟩ | ⟨h1, h2, zs, h3, h4⟩
    · omega
    · exact (bad_good h2 g).elim
    · have := lists_inj h3 hL
      subst this
      rcases h4 with ⟨h4, h5⟩ | ⟨h4, h5⟩
      · rw [if_pos h4, h5]
      · rw [if_neg (by omega), h5]
end Fn

set_option Elab.async false
set_option linter.all false
set_option maxRecDepth 100000
set_option maxHeartbeats 2000000
/-! shields put one by one -/
namespace Fn
open PySem PySem.Spec PyProof.Rows L2 Ow ErX
/-! ### how deep a row stands -/
theorem dep_succ {ns rs : List Str} (g : Good rs) {k : Nat} {r : Str} (hr : rs[k]? = some r) (hD : DRow ns r) :
    ((stAt rs (k + 1)).length : Int) = ((stAt rs k).length : Int) + (if inS OPN (hd r) = true then 1 else 0) - (if r = "end" then 1 else 0) := by
  have hn := good_nw g hr
  have he : hd r = "end" ↔ r = "end" := one_hd hD (by decide +kernel)
  have eo : inS OPN ("end" : Str) = false := by decide +kernel
  have em : mid ("end" : Str) = none := by decide +kernel
  rw [st_succ hr]
  unfold isW at hn
  rw [if_neg (by rw [(drow_wr hD).1]; decide)] at hn
  unfold step
  by_cases h1 : inS OPN (hd r) = true
  · have n : ¬ r = "end" := fun e => by rw [he.mpr e, eo] at h1; cases h1
    rw [if_pos h1, if_pos h1, if_neg n, List.length_append]
    show ((_ + 1 : Nat) : Int) = _
    omega
  · rw [if_neg h1, if_neg h1]
    rw [if_neg h1] at hn
    cases h2 : mid (hd r) with
    | some m =>
      have n : ¬ r = "end" := fun e => by rw [he.mpr e, em] at h2; cases h2
      rw [h2] at hn
      rw [if_pos (show (some m).isSome = true from rfl), if_neg n]
      have hne : stAt rs k ≠ [] := fun z => by rw [z] at hn; simp [sn] at hn
      obtain ⟨l, b, hl⟩ : ∃ l b, stAt rs k = l ++ [b] := ⟨_, _, (List.dropLast_concat_getLast hne).symm⟩
      rw [hl]
      simp
    | none =>
      rw [h2] at hn
      rw [if_neg (by simp)]
      by_cases h3 : hd r = "end"
      · rw [if_pos h3, if_pos (he.mp h3)]
        have hn : (if hd r = "end" then (sn (stAt rs k)).isEmpty || lastIs (sn (stAt rs k)) "try" else _) = false := hn
        rw [if_pos h3, Bool.or_eq_false_iff] at hn
        have hne : stAt rs k ≠ [] := fun z => by rw [z] at hn; simp [sn] at hn
        obtain ⟨l, b, hl⟩ : ∃ l b, stAt rs k = l ++ [b] := ⟨_, _, (List.dropLast_concat_getLast hne).symm⟩
        rw [hl]
        simp
      · rw [if_neg h3, if_neg (fun e => h3 (he.mpr e))]
        omega
/-! ### one shield more -/
def one (p : Nat) (k : Nat) : Bool := decide (k = p)
def ins (S : Nat → Bool) (c : Nat) (k : Nat) : Bool := S k || decide (k = c)
theorem one_pre {p : Nat} {l : List Str} : ∀ {k : Nat}, k ≤ p → k ≤ l.length → exP (one p) l k = l.take k
  | 0, _, _ => by simp [exP]
  | k + 1, h, hl => by
    show exP (one p) l k ++ grp (one p) k (rowAt l k) = _
    rw [one_pre (by omega) (by omega), grp_f (by unfold one; simp; omega), List.take_succ, List.getElem?_eq_getElem (by omega)]
    unfold rowAt
    rw [List.getElem?_eq_getElem (by omega)]
    rfl
theorem one_post {A B : List Str} {r : Str} : ∀ {j : Nat}, j ≤ B.length → exP (one A.length) (A ++ r :: B) (A.length + 1 + j) = A ++ [("shield" : Str), r, ("end" : Str)] ++ B.take j
  | 0, _ => by
    show exP (one A.length) (A ++ r :: B) A.length ++ grp (one A.length) A.length (rowAt (A ++ r :: B) A.length) = _
    have e : rowAt (A ++ r :: B) A.length = r := by unfold rowAt; simp
    rw [one_pre (Nat.le_refl _) (by simp), grp_t (by unfold one; simp), e]
    simp
  | j + 1, h => by
    show exP (one A.length) (A ++ r :: B) (A.length + 1 + j) ++ grp (one A.length) (A.length + 1 + j) (rowAt (A ++ r :: B) (A.length + 1 + j)) = _
    have hx : B[j]? = some B[j] := List.getElem?_eq_getElem (by omega)
    have e : rowAt (A ++ r :: B) (A.length + 1 + j) = B[j] := by
      unfold rowAt
      rw [List.getElem?_append_right (by omega), show A.length + 1 + j - A.length = j + 1 by omega, List.getElem?_cons_succ, hx]
      rfl
    rw [one_post (by omega), grp_f (by unfold one; simp; omega), e, List.take_succ, hx]
    simp
theorem one_ex (A B : List Str) (r : Str) : ex (one A.length) (A ++ r :: B) = A ++ [("shield" : Str), r, ("end" : Str)] ++ B := by
  have h := one_post (A := A) (B := B) (r := r) (Nat.le_refl _)
  rw [List.take_length] at h
  unfold ex
  rw [← h]
  congr 1
  simp
  omega
theorem ins_pre {S : Nat → Bool} {c : Nat} {rs : List Str} : ∀ {k : Nat}, k ≤ c → exP (ins S c) rs k = exP S rs k
  | 0, _ => rfl
  | k + 1, h => by
    show exP (ins S c) rs k ++ grp (ins S c) k _ = exP S rs k ++ grp S k _
    rw [ins_pre (by omega)]
    have : ins S c k = S k := by unfold ins; rw [decide_eq_false (by omega), Bool.or_false]
    unfold grp
    rw [this]
theorem ins_post {S : Nat → Bool} {c : Nat} {rs : List Str} {r : Str} (hS : ¬ S c = true) (hr : rs[c]? = some r) : ∀ j : Nat, ∃ B, exP S rs (c + 1 + j) = exP S rs c ++ r :: B ∧ exP (ins S c) rs (c + 1 + j) = exP S rs c ++ [("shield" : Str), r, ("end" : Str)] ++ B
  | 0 => by
    have e : rowAt rs c = r := by unfold rowAt; rw [hr]; rfl
    refine ⟨[], ?_, ?_⟩
    · show exP S rs c ++ grp S c _ = _
      rw [grp_f hS, e]
    · show exP (ins S c) rs c ++ grp (ins S c) c _ = _
      rw [ins_pre (Nat.le_refl _), grp_t (by unfold ins; simp), e, List.append_nil]
  | j + 1 => by
    obtain ⟨B, h1, h2⟩ := ins_post hS hr j
    have : ins S c (c + 1 + j) = S (c + 1 + j) := by unfold ins; rw [decide_eq_false (by omega), Bool.or_false]
    refine ⟨B ++ grp S (c + 1 + j) (rowAt rs (c + 1 + j)), ?_, ?_⟩
    · show exP S rs (c + 1 + j) ++ grp S (c + 1 + j) _ = _
      rw [h1]
      simp
    · show exP (ins S c) rs (c + 1 + j) ++ grp (ins S c) (c + 1 + j) (rowAt rs (c + 1 + j)) = _
      rw [h2]
      have : grp (ins S c) (c + 1 + j) (rowAt rs (c + 1 + j)) = grp S (c + 1 + j) (rowAt rs (c + 1 + j)) := by unfold grp; rw [this]
      rw [this]
      simp
/-- shielding one row of what is shielded -/
theorem ex_ins {S : Nat → Bool} {c : Nat} {rs : List Str} (hc : c < rs.length) (hS : ¬ S c = true) : ex (one (pos S c)) (ex S rs) = ex (ins S c) rs := by
  obtain ⟨B, h1, h2⟩ := ins_post (rs := rs) hS (List.getElem?_eq_getElem hc) (rs.length - (c + 1))
  have e : c + 1 + (rs.length - (c + 1)) = rs.length := by omega
  rw [e] at h1 h2
  have h1 : ex S rs = _ := h1
  have h2 : ex (ins S c) rs = _ := h2
  rw [h1, h2, ← exP_len S rs c]
  exact one_ex _ _ _
theorem Sof_one (p : Nat) : Sof [(p : Int)] = one p := by
  funext k
  unfold Sof one
  refine decide_eq_decide.mpr ?_
  rw [List.mem_singleton]
  omega
theorem Sof_take {cs : List Int} {k c : Nat} (h : cs[k]? = some (c : Int)) : Sof (cs.take (k + 1)) = ins (Sof (cs.take k)) c := by
  funext j
  unfold Sof ins
  rw [List.take_succ, h, ← Bool.decide_or]
  refine decide_eq_decide.mpr ?_
  rw [List.mem_append]
  have : (j : Int) = (c : Int) ↔ j = c := by omega
  simp [this]
theorem Sof_perm {cs ss : List Int} (h : ∀ z, z ∈ ss ↔ z ∈ cs) : Sof ss = Sof cs := by
  funext k
  exact decide_eq_decide.mpr (h _)
theorem ex_none (rs : List Str) : ex (Sof []) rs = rs := by
  have : ∀ k, k ≤ rs.length → exP (Sof []) rs k = rs.take k := fun k => by
    induction k with
    | zero => intro _; simp [exP]
    | succ k ih =>
      intro h
      show exP (Sof []) rs k ++ grp (Sof []) k (rowAt rs k) = _
      rw [ih (by omega), grp_f (by unfold Sof; simp), List.take_succ, List.getElem?_eq_getElem (by omega)]
      unfold rowAt
      rw [List.getElem?_eq_getElem (by omega)]
      rfl
  have h := this _ (Nat.le_refl _)
  rw [List.take_length] at h
  exact h
theorem pos_ins {S : Nat → Bool} {c j : Nat} (h : j ≤ c) : pos (ins S c) j = pos S j := by
  unfold pos cnt
  have : (List.range j).filter (ins S c) = (List.range j).filter S := by
    refine List.filter_congr fun x hx => ?_
    have := List.mem_range.mp hx
    unfold ins
    rw [decide_eq_false (by omega), Bool.or_false]
  rw [this]
theorem pos_mono' {S : Nat → Bool} {j k : Nat} (h : j ≤ k) : pos S j ≤ pos S k := by
  by_cases e : j = k
  · rw [e]; exact Nat.le_refl _
  · exact Nat.le_of_lt (pos_mono (by omega))
/-- the row inside of a shield does not wait -/
theorem in_shield {S : Nat → Bool} {c : Nat} {rs : List Str} (g : Good rs) (hc : Cho S rs rs.length) (hS : S c = true) : pos S c + 1 ∉ wts (ex S rs) := fun h => by
  rw [ex_waits g hc, List.mem_map] at h
  obtain ⟨j, hj, e⟩ := h
  have hj := (List.mem_filter.mp hj).2
  by_cases e1 : j = c
  · subst e1
    rw [hS] at hj
    cases hj
  · by_cases e2 : j < c
    · have := pos_mono (S := S) e2
      omega
    · have := pos_mono' (S := S) (j := c + 1) (k := j) (by omega)
      rw [pos_t hS] at this
      omega
/-- a row that waits still waits where it stands -/
theorem still {S : Nat → Bool} {c : Nat} {rs : List Str} (g : Good rs) (hc : Cho S rs rs.length) (hw : c ∈ wts rs) (hS : ¬ S c = true) : pos S c ∈ wts (ex S rs) := by
  rw [ex_waits g hc, List.mem_map]
  refine ⟨c, List.mem_filter.mpr ⟨hw, ?_⟩, rfl⟩
  rw [not_tt hS]
  rfl
theorem cho_take {rs : List Str} {cs : List Int} {k : Nat} (h : ChoOk rs cs cs.length) : ChoOk rs (cs.take k) (cs.take k).length := fun j hj z hz => by
  rw [List.length_take] at hj
  rw [List.getElem?_take_of_lt (by omega)] at hz
  obtain ⟨h1, h2⟩ := h j (by omega) z hz
  rw [List.take_take, Nat.min_eq_left (by omega)]
  exact ⟨h1, h2⟩
theorem cho_sub {S S' : Nat → Bool} {rs : List Str} {n : Nat} (h : Cho S rs n) (hs : ∀ k, S' k = true → S k = true) : Cho S' rs n := fun j hj e => h j hj (hs j e)
theorem Sof_sub {cs : List Int} {n k : Nat} (h : Sof (cs.take n) k = true) : Sof cs k = true := decide_eq_true (List.mem_of_mem_take (of_decide_eq_true h))
structure FnT (K : PySem.W.Frag) (C : Addr) : Prop where
  ha : PySem.W.findIn K (.ref C) "__class__" = some (some (.builtin "object.__class__"))
  hn : PySem.W.specialIn K (.builtin "object.__class__") "__get__" = some (some (.builtin "getset_descriptor.__get__"))
  htk : PySem.W.takesIn K (.builtin "object.__class__") = some true
  hm : PySem.W.mroIn K C (.type "object") = some true
theorem fn_ty {K : PySem.W.Frag} {C : Addr} {H : Hp} {p : Addr} {rs ys : List Str} {dx : Addr} (R : FnK K C) (T : FnT K C) (h : FnIn C H p rs ys dx) : TyX K H (.ref p) (.ref C) := by
  obtain ⟨a, b, c, h1, _⟩ := h
  exact .base (.ins h1 R.cl T.ha T.hn T.htk T.hm)
def spDepths (K : PySem.W.Frag) : Sp := fun vs H Q _ => ∃ (p : Addr) (rs ns : List Str), vs = [.ref p] ∧ SqL K H p (rs.map V.str) ∧ Good rs ∧ (∀ r ∈ rs, DRow ns r) ∧ rs.length ≤ 24 ∧ ∀ q H', H q = none → H' q = some (.lst (nV ((List.range rs.length).map fun k => (stAt rs k).length))) → Same H H' → Q (.ref q) H'
def spRefused (C : Addr) : Sp := fun vs H Q _ => ∃ (p dx : Addr) (rs ys ns : List Str) (k : Nat), vs = [.ref p, .int (k : Nat)] ∧ FnIn C H p rs ys dx ∧ Good rs ∧ (∀ r ∈ rs, DRow ns r) ∧ ns.length ≤ 3 ∧ rs ≠ [] ∧ rs.length ≤ 24 ∧ k < 100 ∧ k ∉ wts rs ∧ ∀ H', Same H H' → Q (.bl true) H'
def spFEq (C : Addr) : Sp := fun vs H Q _ => ∃ (p q dx dy : Addr) (rs ys rs' ys' : List Str), vs = [.ref p, .ref q] ∧ FnIn C H p rs ys dx ∧ FnIn C H q rs' ys' dy ∧ (∀ r ∈ rs, RK r) ∧ (∀ r ∈ rs', RK r) ∧ ∀ H', Same H H' → Q (.bl (decide (rs = rs'))) H'
def d5 (rs : List Str) (z : Int) : Bool := decide ((stAt rs z.toNat).length < 5)
theorem dep_at {rs : List Str} {k : Nat} (h : k < rs.length) : (nV ((List.range rs.length).map fun k => (stAt rs k).length))[k]? = some (.int ((stAt rs k).length : Nat)) := by
  unfold nV
  rw [List.map_map, List.getElem?_map, List.getElem?_range h]
  rfl
theorem cho_snoc {rs : List Str} {cs : List Int} {z : Int} (h : ChoOk rs cs cs.length) (hz : z ∈ zI (wts rs)) (hn : z ∉ cs) : ChoOk rs (cs ++ [z]) (cs ++ [z]).length := fun j hj y hy => by
  rw [List.length_append] at hj
  by_cases e : j < cs.length
  · rw [List.getElem?_append_left e] at hy
    obtain ⟨h1, h2⟩ := h j e y hy
    rw [List.take_append_of_le_length (by omega)]
    exact ⟨h1, h2⟩
  · have : j = cs.length := by simp at hj; omega
    subst this
    rw [List.getElem?_append_right (Nat.le_refl _), Nat.sub_self] at hy
    cases hy
    rw [List.take_left]
    exact ⟨hz, hn⟩
theorem rest_len {l : List Int} {z : Int} (hn : l.Nodup) (hz : z ∈ l) : (l.filter fun y => !decide (V.int y = V.int z)).length + 1 = l.length := by
  have e : (fun y : Int => !decide (V.int y = V.int z)) = (fun y => y != z) := by
    funext y
    by_cases e : y = z
    · simp [e]
    · have : ¬ V.int y = V.int z := fun h => e (V.int.inj h)
      simp [e, this]
  rw [e, ← hn.erase_eq_filter, List.length_erase_of_mem hz]
  have := List.length_pos_of_mem hz
  omega
theorem cho_nd {rs : List Str} {cs : List Int} (h : ∀ z ∈ cs, z ∈ zI (wts rs)) (hn : cs.Nodup) : ChoOk rs cs cs.length := fun j hj z hz => by
  refine ⟨h z (List.mem_of_getElem? hz), fun hm => ?_⟩
  obtain ⟨i, hi, e⟩ := List.mem_take_iff_getElem.mp hm
  obtain ⟨h1, h2⟩ := List.getElem?_eq_some_iff.mp hz
  have := (List.nodup_iff_pairwise_ne.mp hn)
  rw [List.pairwise_iff_getElem] at this
  exact this i j (by omega) h1 (by omega) (by rw [e, h2])
theorem cho_perm {rs : List Str} {cs ss : List Int} (h : ChoOk rs cs cs.length) (p : ss.Perm cs) : ChoOk rs ss ss.length :=
  cho_nd (fun z hz => by
    obtain ⟨n, hn, e⟩ := cho_mem h (p.mem_iff.mp hz)
    exact mem_zI.mpr ⟨n, hn, e⟩) (p.nodup_iff.mpr (cho_nodup h))
/-- the k-th of the chosen rows, and what is shielded before -/
theorem kth {rs : List Str} {cs : List Int} {k : Nat} {z : Int} (g : Good rs) (hch : ChoOk rs cs cs.length) (hcs : Cho (Sof cs) rs rs.length) (hz : cs[k]? = some z) :
    ∃ c : Nat, z = (c : Int) ∧ c ∈ wts rs ∧ z + 2 * ((((cs.take k).filter fun y => decide (y < z)).length : Nat) : Int) = ((pos (Sof (cs.take k)) c : Nat) : Int) ∧ pos (Sof (cs.take k)) c ∈ wts (ex (Sof (cs.take k)) rs) ∧
      ex (Sof [((pos (Sof (cs.take k)) c : Nat) : Int)]) (ex (Sof (cs.take k)) rs) = ex (Sof (cs.take (k + 1))) rs ∧ pos (Sof (cs.take k)) c + 1 ∉ wts (ex (Sof (cs.take (k + 1))) rs) := by
  have hk := (List.getElem?_eq_some_iff.mp hz).1
  obtain ⟨c, hc, e⟩ := cho_mem hch (List.mem_of_getElem? hz)
  subst e
  have hS : ¬ Sof (cs.take k) c = true := fun h => (hch k hk _ hz).2 (of_decide_eq_true h)
  have hs0 := cho_sub hcs (S' := Sof (cs.take k)) fun _ h => Sof_sub h
  have hs1 := cho_sub hcs (S' := Sof (cs.take (k + 1))) fun _ h => Sof_sub h
  have et := Sof_take hz
  refine ⟨c, rfl, hc, ?_, still g hs0 hc hS, ?_, ?_⟩
  · rw [← cnt_eq (cho_take hch)]
    unfold pos
    omega
  · rw [Sof_one, ex_ins (wts_lt hc) hS, et]
  · have := in_shield (c := c) g hs1 (by rw [et]; unfold ins; simp)
    rw [et] at this ⊢
    rw [pos_ins (Nat.le_refl _)] at this
    exact this
theorem cho_one {rs : List Str} {p : Nat} (h : p ∈ wts rs) : ChoOk rs [(p : Int)] [(p : Int)].length := cho_nd (fun z hz => by rw [List.mem_singleton.mp hz]; exact mem_zI.mpr ⟨p, h, rfl⟩) (by simp)
theorem cho_nil (rs : List Str) : ChoOk rs [] ([] : List Int).length := fun j hj => absurd hj (Nat.not_lt_zero j)
theorem lists_shaped {ns rows ys : List Str} (h : ∀ r ∈ rows, DRow ns r) (hL : Lists rows ys) : SeqAt.shaped (.tuple (datS ys)) = true := by
  obtain ⟨_, hn, hm⟩ := hL
  have hs : ∀ z ∈ ys, isSym z = true := fun z hz => by
    obtain ⟨r, hr, rfl⟩ := List.mem_map.mp ((hm z).mp hz)
    obtain ⟨hr, hst⟩ := List.mem_filter.mp hr
    rcases h r hr with e | ⟨x, hx, hl, rfl⟩
    · exact absurd hst (by
        have : ∀ r ∈ DVOC, ¬ Txt.startswith r "each " = true := by decide +kernel
        exact this r e)
    · rw [(each_row hl).2.2.2.1]
      unfold isSym
      rw [hl, Bool.true_or]
  have h1 := shapedS hs
  have h2 : PyData.canLay0 (.tuple (datS ys)) = true := by
    unfold SeqAt.shaped at h1
    rw [Bool.and_eq_true] at h1
    exact h1.1
  have h3 : PyData.depth (.tuple (datS ys)) ≤ 64 := by
    unfold SeqAt.shaped at h1
    rw [Bool.and_eq_true] at h1
    exact of_decide_eq_true h1.2
  unfold SeqAt.shaped
  rw [h2, decide_eq_true h3]
  rfl
theorem eqvTS (l l' : List Str) : PyData.eqv (.tuple (datS l)) (.tuple (datS l')) = decide (l = l') := eqvS l l'
end Fn

set_option Elab.async false
set_option linter.all false
set_option maxRecDepth 100000
set_option maxHeartbeats 2000000
/-! rows written with more spaces -/
namespace Fn
open PySem PySem.Spec PyProof.Rows L2 Ow ErX
def sps (n : Nat) : List Nat := List.replicate n 32
def bod : List Str → List Nat → List Nat
  | w :: ws, m :: ms => TL.tl w ++ (sps (m + 1) ++ bod ws ms)
  | _, _ => []
theorem bod_snoc : ∀ {ws : List Str} {ms : List Nat} {w : Str} {m : Nat}, ws.length = ms.length → bod (ws ++ [w]) (ms ++ [m]) = bod ws ms ++ (TL.tl w ++ sps (m + 1))
  | [], [], w, m, _ => by simp [bod]
  | [], _ :: _, _, _, h => by cases h
  | _ :: _, [], _, _, h => by cases h
  | x :: ws, y :: ms, w, m, h => by
    have ih := bod_snoc (ws := ws) (ms := ms) (w := w) (m := m) (by simpa using h)
    show TL.tl x ++ (sps (y + 1) ++ bod (ws ++ [w]) (ms ++ [m])) = (TL.tl x ++ (sps (y + 1) ++ bod ws ms)) ++ _
    rw [ih]
    simp only [List.append_assoc]
def wch (c : Nat) : Bool := decide (97 ≤ c ∧ c ≤ 122) || decide (49 ≤ c ∧ c ≤ 51)
structure Wd (w : Str) : Prop where
  ne : TL.tl w ≠ []
  ch : ∀ c ∈ TL.tl w, wch c = true
  len : w.length ≤ 8
theorem wch_sp {c : Nat} (h : wch c = true) : c ≠ 32 ∧ c < 128 ∧ c ≠ 10 := by
  unfold wch at h
  rw [Bool.or_eq_true, decide_eq_true_eq, decide_eq_true_eq] at h
  omega
def okW (w : Str) : Bool := !(TL.tl w).isEmpty && ((TL.tl w).all wch && decide (w.length ≤ 8))
theorem wd_of {w : Str} (h : okW w = true) : Wd w := by
  unfold okW at h
  rw [Bool.and_eq_true, Bool.and_eq_true, decide_eq_true_eq, List.all_eq_true] at h
  exact ⟨fun e => by rw [e] at h; exact absurd h.1 (by decide), h.2.1, h.2.2⟩
def okWs (ws : List Str) : Bool := (match ws with | [_] => true | [_, _] => true | _ => false) && ws.all okW
theorem dv_words : ∀ r ∈ DVOC, okWs (Txt.split r " ") = true ∧ Txt.join " " (Txt.split r " ") = r := by decide +kernel
theorem okWs_ws {ws : List Str} (h : okWs ws = true) : ((∃ a, ws = [a]) ∨ ∃ a b, ws = [a, b]) ∧ ∀ w ∈ ws, Wd w := by
  unfold okWs at h
  rw [Bool.and_eq_true, List.all_eq_true] at h
  refine ⟨?_, fun w hw => wd_of (h.2 w hw)⟩
  match ws, h.1 with
  | [a], _ => exact .inl ⟨a, rfl⟩
  | [a, b], _ => exact .inr ⟨a, b, rfl⟩
  | [], h => cases h
  | _ :: _ :: _ :: _, h => cases h
/-- the words of a drawn row -/
theorem drow_words {ns : List Str} {r : Str} (h : DRow ns r) : ((∃ a, Txt.split r " " = [a]) ∨ ∃ a b, Txt.split r " " = [a, b]) ∧ (∀ w ∈ Txt.split r " ", Wd w) ∧ Txt.join " " (Txt.split r " ") = r := by
  rcases h with h | ⟨x, _, hx, rfl⟩
  · obtain ⟨h1, h2⟩ := dv_words r h
    obtain ⟨h3, h4⟩ := okWs_ws h1
    exact ⟨h3, h4, h2⟩
  · have hs := each_split hx
    obtain ⟨l1, l2, l3⟩ := lc_cps hx
    rw [hs]
    refine ⟨.inr ⟨_, _, rfl⟩, fun w hw => ?_, ?_⟩
    · rcases List.mem_cons.mp hw with e | e
      · rw [e]; exact wd_of (by decide +kernel)
      · rw [List.mem_singleton.mp e]
        refine ⟨fun z => ?_, fun c hc => ?_, by omega⟩
        · have : x.length = (TL.tl x).length := by rw [TL.len_tl]
          rw [z] at this
          simp at this
          omega
        · have := l1 c hc
          unfold wch
          rw [decide_eq_true this, Bool.true_or]
    · refine TL.ext_tl ?_
      rw [TL.join_eq, TL.tl_append, TL.tl_join]
      rfl
theorem jn_left {L : List (List Nat)} (hL : L ≠ []) : ∀ n, TL.joinL [32] (List.replicate n [] ++ L) = sps n ++ TL.joinL [32] L
  | 0 => rfl
  | n + 1 => by
    have ih := jn_left hL n
    have e : List.replicate (n + 1) ([] : List Nat) ++ L = [[]] ++ (List.replicate n [] ++ L) := by rw [List.replicate_succ]; rfl
    rw [e, joinL_app [32] (by simp) (by intro z; exact hL (List.append_eq_nil_iff.mp z).2), ih]
    show [] ++ [32] ++ (sps n ++ TL.joinL [32] L) = _
    unfold sps
    rw [List.replicate_succ]
    rfl
theorem jn_right {L : List (List Nat)} (hL : L ≠ []) : ∀ m, TL.joinL [32] (L ++ List.replicate m []) = TL.joinL [32] L ++ sps m
  | 0 => by rw [List.replicate_zero, List.append_nil]; unfold sps; rw [List.replicate_zero, List.append_nil]
  | m + 1 => by
    have ih := jn_right hL m
    have e : L ++ List.replicate (m + 1) ([] : List Nat) = (L ++ List.replicate m []) ++ [[]] := by rw [List.replicate_succ', List.append_assoc]
    rw [e, joinL_app [32] (by intro z; exact hL (List.append_eq_nil_iff.mp z).1) (by simp), ih]
    unfold sps
    rw [List.replicate_succ', List.append_assoc, List.append_assoc]
    rfl
theorem nul_tl : TL.tl ("" : Str) = [] := by decide +kernel
/-- what is left of such a text when the spaces are dropped -/
theorem sp_join {L : List Str} {n m : Nat} {t : Str} (hL : L ≠ []) (h : TL.tl t = sps n ++ (TL.joinL [32] (L.map TL.tl) ++ sps m)) (hn : ∀ p ∈ L, ¬ 32 ∈ TL.tl p) : wds t = L.filter fun y => !decide (V.str y = V.str "") := by
  have e : t = Txt.join " " (List.replicate n ("" : Str) ++ (L ++ List.replicate m ("" : Str))) := by
    refine TL.ext_tl ?_
    rw [h, TL.join_eq, TL.tl_join, sp_tl, List.map_append, List.map_append, List.map_replicate, List.map_replicate, nul_tl, jn_left (by simp [hL]), jn_right (by simp [hL])]
  have hs : Txt.split t " " = List.replicate n ("" : Str) ++ (L ++ List.replicate m ("" : Str)) := by
    rw [e]
    refine TL.split_join sp_tl (by decide +kernel) (by simp [hL]) fun p hp => ?_
    rcases List.mem_append.mp hp with hp | hp
    · rw [List.eq_of_mem_replicate hp, nul_tl]; simp
    · rcases List.mem_append.mp hp with hp | hp
      · exact hn p hp
      · rw [List.eq_of_mem_replicate hp, nul_tl]; simp
  have e0 : (!decide (V.str "" = V.str "")) = false := by decide +kernel
  unfold wds
  rw [hs, List.filter_append, List.filter_append, List.filter_replicate, List.filter_replicate, e0]
  simp
theorem spS_facts : (∀ c : Fin 128, wch c.val = true → PyProof.Rows.spS { cps := #[c.val] } = false) ∧ PyProof.Rows.spS { cps := #[32] } = true := by decide +kernel
theorem spS_w {c : Nat} (h : wch c = true) : PyProof.Rows.spS { cps := #[c] } = false := spS_facts.1 ⟨c, (wch_sp h).2.1⟩ h
theorem at_cps (t : Str) (k : Nat) : t.cps.getD k 0 = (TL.tl t).getD k 0 := by
  show _ = t.cps.toList.getD k 0
  rw [List.getD_eq_getElem?_getD, Array.getD_eq_getD_getElem?, Array.getElem?_toList]
theorem strip_core {t : Str} {c : List Nat} {n m : Nat} (h : TL.tl t = sps n ++ (c ++ sps m)) (hc : c ≠ []) (hf : wch (c.getD 0 0) = true) (hg : wch (c.getD (c.length - 1) 0) = true) (ha : ∀ x ∈ c, x < 128) : TL.tl (Txt.strip t) = c := by
  have hlen : t.length = n + (c.length + m) := by
    have := congrArg List.length h
    rw [← TL.len_tl] at this
    unfold sps at this
    simpa using this
  have hc0 : 0 < c.length := List.length_pos_iff.mpr hc
  have hA : ∀ x ∈ t.cps.toList, x < 128 := fun x hx => by
    have hx : x ∈ TL.tl t := hx
    rw [h] at hx
    rcases List.mem_append.mp hx with hx | hx
    · rw [List.eq_of_mem_replicate hx]; decide
    · rcases List.mem_append.mp hx with hx | hx
      · exact ha x hx
      · rw [List.eq_of_mem_replicate hx]; decide
  have eL : ∀ k, k < n → (TL.tl t).getD k 0 = 32 := fun k hk => by
    rw [h, List.getD_eq_getElem?_getD, List.getElem?_append_left (by unfold sps; simpa using hk)]
    unfold sps
    rw [List.getElem?_replicate, if_pos hk]
    rfl
  have eC : ∀ k, k < c.length → (TL.tl t).getD (n + k) 0 = c.getD k 0 := fun k hk => by
    rw [h, List.getD_eq_getElem?_getD, List.getD_eq_getElem?_getD, List.getElem?_append_right (by unfold sps; simp), List.getElem?_append_left (by unfold sps; simp <;> omega)]
    unfold sps
    rw [List.length_replicate, Nat.add_sub_cancel_left]
  have eR : ∀ k, k < m → (TL.tl t).getD (n + (c.length + k)) 0 = 32 := fun k hk => by
    rw [h, List.getD_eq_getElem?_getD, List.getElem?_append_right (by unfold sps; simp), List.getElem?_append_right (by unfold sps; simp <;> omega)]
    unfold sps
    rw [List.length_replicate, show n + (c.length + k) - n - c.length = k by omega, List.getElem?_replicate, if_pos hk]
    rfl
  obtain ⟨lo, hi, h1, h2, h3, h4, h5, h6⟩ := PyProof.Rows.strip_cut hA
  simp only [at_cps] at h4 h5 h6
  have w0 := spS_w hf
  have w1 := spS_w hg
  have sp := spS_facts.2
  have l1 : lo ≤ n := by
    by_cases e : lo ≤ n
    · exact e
    · have := h4 n (by omega)
      have e0 := eC 0 hc0
      rw [Nat.add_zero] at e0
      rw [e0, w0] at this
      cases this
  have l2 : n + c.length ≤ hi := by
    by_cases e : n + c.length ≤ hi
    · exact e
    · have := h5 (n + (c.length - 1)) (by omega) (by omega)
      rw [eC _ (by omega), w1] at this
      cases this
  rcases h6 with h6 | ⟨h6, h7⟩
  · omega
  have l3 : lo = n := by
    by_cases e : lo < n
    · rw [eL lo e, sp] at h6
      cases h6
    · omega
  have l4 : hi = n + c.length := by
    by_cases e : n + c.length < hi
    · rw [show hi - 1 = n + (c.length + (hi - 1 - n - c.length)) by omega, eR _ (by omega), sp] at h7
      cases h7
    · omega
  rw [h3, TL.tl_strSub, h, l3, l4]
  unfold sps
  simp
/-- the text of a row with more spaces -/
structure Spd (r t : Str) : Prop where
  w : wds t = Txt.split r " "
  ch : ∀ c ∈ TL.tl t, c < 128 ∧ c ≠ 10
  len : t.length ≤ 32
theorem wdS {w : Str} (h : Wd w) : (!decide (V.str w = V.str "")) = true := by
  have : ¬ V.str w = V.str "" := fun e => h.ne (by rw [V.str.inj e]; exact nul_tl)
  rw [decide_eq_false this]
  rfl
theorem sps_ch {n x : Nat} (h : x ∈ sps n) : x = 32 := List.eq_of_mem_replicate h
theorem spaced_any {ns : List Str} {r t : Str} {n : Nat} {ms : List Nat} (hD : DRow ns r) (h : TL.tl t = sps n ++ bod (Txt.split r " ") ms) (hl : ms.length = (Txt.split r " ").length) (hn : n ≤ 2) (hm : ∀ m ∈ ms, m ≤ 1) : Spd r t ∧ Spd r (Txt.strip t) := by
  obtain ⟨hs, hw, hj⟩ := drow_words hD
  have e0 : (!decide (V.str "" = V.str "")) = false := by decide +kernel
  have n32 : ∀ {w : Str}, Wd w → ¬ 32 ∈ TL.tl w := fun hw h => (wch_sp (hw.ch 32 h)).1 rfl
  have g0 : ∀ {c : List Nat}, c ≠ [] → (∀ x ∈ c, wch x = true) → wch (c.getD 0 0) = true ∧ wch (c.getD (c.length - 1) 0) = true := fun {c} hc hx => by
    have := List.length_pos_iff.mpr hc
    rw [List.getD_eq_getElem?_getD, List.getD_eq_getElem?_getD, List.getElem?_eq_getElem this, List.getElem?_eq_getElem (show c.length - 1 < c.length by omega)]
    exact ⟨hx _ (List.getElem_mem _), hx _ (List.getElem_mem _)⟩
  rcases hs with ⟨a, e⟩ | ⟨a, b, e⟩
  · rw [e] at h hl hw hj
    obtain ⟨m, rfl⟩ := List.length_eq_one_iff.mp hl
    have wa := hw a List.mem_cons_self
    have hm1 := hm m List.mem_cons_self
    have h : TL.tl t = sps n ++ (TL.tl a ++ sps (m + 1)) := by rw [h]; simp [bod]
    obtain ⟨f1, f2⟩ := g0 wa.ne wa.ch
    have hst := strip_core h wa.ne f1 f2 fun x hx => (wch_sp (wa.ch x hx)).2.1
    have wl := wa.len
    have la : a.length = (TL.tl a).length := TL.len_tl a
    have ef : ([a].filter fun y => !decide (V.str y = V.str "")) = [a] := by rw [List.filter_cons, wdS wa]; rfl
    refine ⟨⟨?_, fun c hc => ?_, ?_⟩, ⟨?_, fun c hc => ?_, ?_⟩⟩
    · rw [sp_join (L := [a]) (n := n) (m := m + 1) (by simp) h (fun p hp => by rw [List.mem_singleton.mp hp]; exact n32 wa), ef, e]
    · rw [h] at hc
      rcases List.mem_append.mp hc with hc | hc
      · rw [sps_ch hc]; decide
      · rcases List.mem_append.mp hc with hc | hc
        · exact (wch_sp (wa.ch c hc)).2
        · rw [sps_ch hc]; decide
    · have := congrArg List.length h
      rw [← TL.len_tl] at this
      unfold sps at this
      simp only [List.length_append, List.length_replicate] at this
      omega
    · rw [sp_join (L := [a]) (n := 0) (m := 0) (by simp) (by rw [hst]; unfold sps; simp [TL.joinL]) (fun p hp => by rw [List.mem_singleton.mp hp]; exact n32 wa), ef, e]
    · rw [hst] at hc
      exact (wch_sp (wa.ch c hc)).2
    · rw [TL.len_tl, hst]
      omega
  · rw [e] at h hl hw hj
    obtain ⟨m1, m2, rfl⟩ : ∃ m1 m2, ms = [m1, m2] := by
      match ms, hl with
      | [x, y], _ => exact ⟨x, y, rfl⟩
    have wa := hw a List.mem_cons_self
    have wb := hw b (List.mem_cons_of_mem _ List.mem_cons_self)
    have hm1 := hm m1 List.mem_cons_self
    have hm2 := hm m2 (List.mem_cons_of_mem _ List.mem_cons_self)
    have la : a.length = (TL.tl a).length := TL.len_tl a
    have lb : b.length = (TL.tl b).length := TL.len_tl b
    have wla := wa.len
    have wlb := wb.len
    have hL : ([a] ++ List.replicate m1 ("" : Str) ++ [b]) ≠ [] := by simp
    have hj : TL.joinL [32] (([a] ++ List.replicate m1 ("" : Str) ++ [b]).map TL.tl) = TL.tl a ++ sps m1 ++ [32] ++ TL.tl b := by
      rw [List.map_append, List.map_append, List.map_replicate, nul_tl, joinL_app [32] (by simp) (by simp), jn_right (by simp)]
      rfl
    have hc32 : sps (m1 + 1) = sps m1 ++ [32] := by unfold sps; rw [List.replicate_succ']
    have h : TL.tl t = sps n ++ ((TL.tl a ++ sps m1 ++ [32] ++ TL.tl b) ++ sps (m2 + 1)) := by
      rw [h]
      show sps n ++ (TL.tl a ++ (sps (m1 + 1) ++ (TL.tl b ++ (sps (m2 + 1) ++ [])))) = _
      rw [hc32]
      simp only [List.append_assoc, List.append_nil]
    have hcne : TL.tl a ++ sps m1 ++ [32] ++ TL.tl b ≠ [] := by simp
    have hch : ∀ x ∈ TL.tl a ++ sps m1 ++ [32] ++ TL.tl b, x < 128 ∧ x ≠ 10 := fun x hx => by
      rcases List.mem_append.mp hx with hx | hx
      · rcases List.mem_append.mp hx with hx | hx
        · rcases List.mem_append.mp hx with hx | hx
          · exact (wch_sp (wa.ch x hx)).2
          · rw [sps_ch hx]; decide
        · rw [List.mem_singleton.mp hx]; decide
      · exact (wch_sp (wb.ch x hx)).2
    have f1 : wch ((TL.tl a ++ sps m1 ++ [32] ++ TL.tl b).getD 0 0) = true := by
      have := (g0 wa.ne wa.ch).1
      have l0 := List.length_pos_iff.mpr wa.ne
      rw [List.append_assoc, List.append_assoc, List.getD_eq_getElem?_getD, List.getElem?_append_left l0]
      rw [List.getD_eq_getElem?_getD] at this
      exact this
    have f2 : wch ((TL.tl a ++ sps m1 ++ [32] ++ TL.tl b).getD ((TL.tl a ++ sps m1 ++ [32] ++ TL.tl b).length - 1) 0) = true := by
      have := (g0 wb.ne wb.ch).2
      have l0 := List.length_pos_iff.mpr wb.ne
      generalize TL.tl a ++ sps m1 ++ [32] = Z
      have el : Z.length + (TL.tl b).length - 1 - Z.length = (TL.tl b).length - 1 := by omega
      rw [List.getD_eq_getElem?_getD, List.length_append, List.getElem?_append_right (by omega), el]
      rw [List.getD_eq_getElem?_getD] at this
      exact this
    have hst := strip_core h hcne f1 f2 fun x hx => (hch x hx).1
    have nL : ∀ p ∈ [a] ++ List.replicate m1 ("" : Str) ++ [b], ¬ 32 ∈ TL.tl p := fun p hp => by
      rcases List.mem_append.mp hp with hp | hp
      · rcases List.mem_append.mp hp with hp | hp
        · rw [List.mem_singleton.mp hp]; exact n32 wa
        · rw [List.eq_of_mem_replicate hp, nul_tl]; simp
      · rw [List.mem_singleton.mp hp]; exact n32 wb
    have ef : (([a] ++ List.replicate m1 ("" : Str) ++ [b]).filter fun y => !decide (V.str y = V.str "")) = [a, b] := by
      rw [List.filter_append, List.filter_append, List.filter_replicate, e0, List.filter_cons, wdS wa, List.filter_cons, wdS wb]
      rfl
    have hll : (TL.tl a ++ sps m1 ++ [32] ++ TL.tl b).length ≤ 20 := by
      unfold sps
      simp only [List.length_append, List.length_replicate, List.length_cons, List.length_nil]
      omega
    refine ⟨⟨?_, fun c hc => ?_, ?_⟩, ⟨?_, fun c hc => ?_, ?_⟩⟩
    · rw [sp_join (n := n) (m := m2 + 1) hL (by rw [hj]; exact h) nL, ef, e]
    · rw [h] at hc
      rcases List.mem_append.mp hc with hc | hc
      · rw [sps_ch hc]; decide
      · rcases List.mem_append.mp hc with hc | hc
        · exact hch c hc
        · rw [sps_ch hc]; decide
    · have := congrArg List.length h
      rw [← TL.len_tl, List.length_append, List.length_append] at this
      unfold sps at this hll
      simp only [List.length_append, List.length_replicate] at this hll
      omega
    · rw [sp_join (n := 0) (m := 0) hL (by rw [hj, hst]; unfold sps; simp) nL, ef, e]
    · rw [hst] at hc
      exact hch c hc
    · rw [TL.len_tl, hst]
      omega
theorem spd_raw {ns : List Str} {r t : Str} (hD : DRow ns r) (h : Spd r t) : Raw t ∧ spc t = r := by
  obtain ⟨hs, hw, hj⟩ := drow_words hD
  have e : spc t = r := by
    unfold spc
    rw [h.w, hj]
  have hr := drow_raw hD
  have er := (drow_wr hD).2
  refine ⟨⟨Nat.le_trans (m := 64) (by have := h.len; omega) (by decide), ?_, ?_, ?_⟩, e⟩
  · have hwr : wds r = Txt.split r " " := by
      unfold wds
      rw [List.filter_eq_self]
      exact fun y hy => wdS (hw y hy)
    have := hr.sum
    rw [h.w, ← hwr]
    exact this
  · have := hr.row
    rw [e]
    rw [er] at this
    exact this
  · have := hr.two
    rw [e]
    rw [er] at this
    exact this
end Fn

set_option Elab.async false
set_option linter.all false
set_option maxRecDepth 100000
set_option maxHeartbeats 2000000
/-! functions with a row more or another row; what is read of a text -/
namespace Fn
open PySem PySem.Spec PyProof.Rows L2 Ow ErX
theorem sn_step (i j : Nat) (r : Str) {bs bs' : Bl} (h : sn bs = sn bs') : sn (step i r bs) = sn (step j r bs') := by
  unfold step
  by_cases h1 : inS OPN (hd r) = true
  · rw [if_pos h1, if_pos h1]
    unfold sn at h ⊢
    rw [List.map_append, List.map_append, h]
    rfl
  · rw [if_neg h1, if_neg h1]
    by_cases h2 : (mid (hd r)).isSome
    · rw [if_pos h2, if_pos h2]
      have hl : bs.getLast?.map (·.2) = bs'.getLast?.map (·.2) := by
        rw [← List.getLast?_map, ← List.getLast?_map]
        exact congrArg List.getLast? h
      have hd' : bs.dropLast.map (·.2) = bs'.dropLast.map (·.2) := by
        rw [List.map_dropLast, List.map_dropLast]
        exact congrArg List.dropLast h
      unfold sn
      rw [List.map_append, List.map_append, hd']
      congr 1
      cases e : bs.getLast? with
      | none =>
        cases e' : bs'.getLast? with
        | none => rfl
        | some b => rw [e, e'] at hl; cases hl
      | some b =>
        cases e' : bs'.getLast? with
        | none => rw [e, e'] at hl; cases hl
        | some b' => rfl
    · rw [if_neg h2, if_neg h2]
      by_cases h3 : hd r = "end"
      · rw [if_pos h3, if_pos h3]
        unfold sn
        rw [List.map_dropLast, List.map_dropLast]
        exact congrArg List.dropLast h
      · rw [if_neg h3, if_neg h3, h]
theorem runW_sn : ∀ {l : List Str} {i j : Nat} {bs bs' : Bl}, sn bs = sn bs' → (runW i bs l).map sn = (runW j bs' l).map sn
  | [], i, j, bs, bs', h => by show some (sn bs) = some (sn bs'); rw [h]
  | r :: l, i, j, bs, bs', h => by
    show Option.map sn (if isW r (sn bs) = true then none else runW (i + 1) (step i r bs) l) = Option.map sn (if isW r (sn bs') = true then none else runW (j + 1) (step j r bs') l)
    rw [h]
    split
    · rfl
    · exact runW_sn (sn_step i j r h)
theorem run_nil {l : List Str} {i j : Nat} {bs bs' : Bl} (h : sn bs = sn bs') (hr : runW i bs l = some []) : runW j bs' l = some [] := by
  have := runW_sn (l := l) (i := i) (j := j) h
  rw [hr] at this
  cases e : runW j bs' l with
  | none => rw [e] at this; cases this
  | some c =>
    rw [e] at this
    have : sn c = [] := (Option.some.inj this).symm
    cases c with
    | nil => rfl
    | cons a c => cases this
def PL4 : List Str := ["ask", "read", "pause", "check"]
def PL5 : List Str := ["ask", "read", "pause", "check", "head"]
def EXR : List Str := ["ask", "read", "each q", "pause", "end"]
def EXW : List Str := ["ask", " read ", "each  q", "pause", "end"]
theorem pl_facts : ∀ r ∈ PL5, r ∈ PLN ∧ r ≠ "return" ∧ inS ["drain", "close"] r = false ∧ hd r = r ∧ inS OPN r = false ∧ mid r = none ∧ r ≠ "end" ∧ r ∈ DVOC := by decide +kernel
theorem pl_row {r : Str} (h : r ∈ PL5) {i : Nat} {bs : Bl} {l : List Str} : runW i bs (r :: l) = runW (i + 1) bs l := by
  obtain ⟨h1, h2, h3, h4, h5, h6, h7, _⟩ := pl_facts r h
  have hw : isW r (sn bs) = false := by
    rw [pln_isW h1, if_neg h2, h3]
    rfl
  show (if isW r (sn bs) = true then none else runW (i + 1) (step i r bs) l) = _
  rw [hw, if_neg (by decide), same_fs (by rw [h4, h5]; decide) (by rw [h4, h6]; decide) (by rw [h4]; exact h7)]
theorem ins_pause {A B : List Str} (h : runW 0 [] (A ++ B) = some []) : Good (A ++ [("pause" : Str)] ++ B) := by
  refine good_run ?_
  rw [runW_app] at h
  rw [List.append_assoc, runW_app]
  cases e : runW 0 [] A with
  | none => rw [e] at h; cases h
  | some b =>
    rw [e] at h
    have h : runW (0 + A.length) b B = some [] := h
    show runW (0 + A.length) b ("pause" :: B) = some []
    rw [pl_row (by decide +kernel)]
    exact run_nil rfl h
theorem rep_head {A B : List Str} {r : Str} (h : runW 0 [] (A ++ r :: B) = some []) (hr : r ∈ PL4) : Good (A ++ [("head" : Str)] ++ B) := by
  have hr5 : r ∈ PL5 := (by decide +kernel : ∀ r ∈ PL4, r ∈ PL5) r hr
  refine good_run ?_
  rw [runW_app] at h
  rw [List.append_assoc, runW_app]
  cases e : runW 0 [] A with
  | none => rw [e] at h; cases h
  | some b =>
    rw [e] at h
    have h : runW (0 + A.length) b (r :: B) = some [] := h
    rw [pl_row hr5] at h
    show runW (0 + A.length) b ("head" :: B) = some []
    rw [pl_row (by decide +kernel)]
    exact h
theorem pre_good {rows : List Str} (h : Keeps [] rows) : Good ([("ask" : Str), ("read" : Str)] ++ rows) := by
  refine good_run ?_
  show runW 0 [] ("ask" :: "read" :: rows) = some []
  rw [pl_row (by decide +kernel), pl_row (by decide +kernel)]
  exact h 2 [] rfl
theorem drow_pl {ns : List Str} {r : Str} (h : r ∈ PL5) : DRow ns r := .inl (pl_facts r h).2.2.2.2.2.2.2
theorem ex_fun : Good EXR ∧ rowsOf (Txt.join "\n" EXW) = EXR := ⟨good_run (by decide +kernel), by decide +kernel⟩
theorem ret_fun : Good [("return" : Str)] ∧ rowsOf (Txt.join "\n" [("return" : Str)]) = [("return" : Str)] := ⟨good_run (by decide +kernel), by decide +kernel⟩
theorem bad_of3 : Bad [("" : Str)] 0 ∧ Bad [("ask" : Str), ("end" : Str)] 1 ∧ Bad [("pause" : Str), ("ask" : Str), ("" : Str)] 2 := by
  refine ⟨⟨fun j hj => absurd hj (Nat.not_lt_zero j), .inl ⟨"", rfl, by decide +kernel⟩⟩, ⟨fun j hj h => ?_, .inl ⟨"end", rfl, by decide +kernel⟩⟩, ⟨fun j hj h => ?_, .inl ⟨"", rfl, by decide +kernel⟩⟩⟩
  · obtain ⟨r, hr, hw⟩ := h
    have : j = 0 := by omega
    subst this
    cases hr
    exact absurd hw (by decide +kernel)
  · obtain ⟨r, hr, hw⟩ := h
    rcases (show j = 0 ∨ j = 1 by omega) with e | e
    · subst e
      cases hr
      exact absurd hw (by decide +kernel)
    · subst e
      cases hr
      exact absurd hw (by decide +kernel)
theorem bad_rows : rowsOf (Txt.join "\n" ([] : List Str)) = [("" : Str)] ∧ rowsOf (Txt.join "\n" [("ask" : Str), ("end" : Str)]) = [("ask" : Str), ("end" : Str)] ∧ rowsOf (Txt.join "\n" [("pause" : Str), ("ask\n" : Str)]) = [("pause" : Str), ("ask" : Str), ("" : Str)] := by decide +kernel
/-! ### the texts -/
def Spds (rows ts : List Str) : Prop := ts.length = rows.length ∧ ∀ (i : Nat) (r t : Str), rows[i]? = some r → ts[i]? = some t → Spd r t
theorem spds_mem {rows ts : List Str} (h : Spds rows ts) {t : Str} (ht : t ∈ ts) : ∃ r ∈ rows, Spd r t := by
  obtain ⟨i, hi, e⟩ := List.getElem_of_mem ht
  have hi' : i < rows.length := by rw [← h.1]; exact hi
  exact ⟨rows[i], List.getElem_mem _, h.2 i _ t (List.getElem?_eq_getElem hi') (by rw [List.getElem?_eq_getElem hi, e])⟩
theorem spds_split {ns rows ts : List Str} (hD : ∀ r ∈ rows, DRow ns r) (hne : rows ≠ []) (h : Spds rows ts) : Txt.split (Txt.join "\n" ts) "\n" = ts := by
  refine TL.split_join (s := 10) (S := []) (by decide +kernel) (by decide +kernel) (fun e => hne (List.length_eq_zero_iff.mp (by rw [← h.1, e]; rfl))) fun p hp hm => ?_
  obtain ⟨r, _, hs⟩ := spds_mem h hp
  exact (hs.ch 10 hm).2 rfl
theorem spds_rows {ns rows ts : List Str} (hD : ∀ r ∈ rows, DRow ns r) (hne : rows ≠ []) (h : Spds rows ts) : rowsOf (Txt.join "\n" ts) = rows ∧ (∀ t ∈ ts, Raw t) := by
  refine ⟨?_, fun t ht => ?_⟩
  · unfold rowsOf
    rw [spds_split hD hne h]
    refine List.ext_getElem? fun i => ?_
    rw [List.getElem?_map]
    cases e : rows[i]? with
    | none =>
      rw [List.getElem?_eq_none_iff] at e
      rw [List.getElem?_eq_none_iff.mpr (by rw [h.1]; exact e)]
      rfl
    | some r =>
      have hi := (List.getElem?_eq_some_iff.mp e).1
      have hi' : i < ts.length := by rw [h.1]; exact hi
      have ht : ts[i]? = some ts[i] := List.getElem?_eq_getElem hi'
      rw [ht]
      have := (spd_raw (hD r (List.mem_of_getElem? e)) (h.2 i r _ e ht)).2
      show some (spc _) = _
      rw [this]
  · obtain ⟨r, hr, hs⟩ := spds_mem h ht
    exact (spd_raw (hD r hr) hs).1
theorem spds_len {rows ts : List Str} (h : Spds rows ts) (hl : rows.length ≤ 24) : (Txt.join "\n" ts).length + 2 ≤ sizeLine ∧ (ts.map (·.length)).sum + ts.length * ("\n" : Str).length ≤ 16777216 := by
  have e1 : ("\n" : Str).length = 1 := by decide +kernel
  have hm : ∀ t ∈ ts, t.length ≤ 32 := fun t ht => by
    obtain ⟨r, _, hs⟩ := spds_mem h ht
    exact hs.len
  have hs : (ts.map (·.length)).sum ≤ 32 * ts.length := by
    have : ∀ l : List Str, (∀ t ∈ l, t.length ≤ 32) → (l.map (·.length)).sum ≤ 32 * l.length := fun l => by
      induction l with
      | nil => intro _; exact Nat.le_refl _
      | cons r l ih =>
        intro hm
        have := ih fun q hq => hm q (List.mem_cons_of_mem _ hq)
        have := hm r List.mem_cons_self
        rw [List.map_cons, List.sum_cons, List.length_cons]
        omega
    exact this ts hm
  have := PySem.StrLaws.join_length_le "\n" ts
  have hl' := h.1
  rw [TL.join_eq]
  rw [e1] at this ⊢
  exact ⟨Nat.le_trans (m := 2000) (by omega) (by decide), by omega⟩
/-! ### what the defs promise -/
def spFStr (C : Addr) : Sp := fun vs H Q _ => ∃ (p dx : Addr) (rs ys : List Str), vs = [.ref p] ∧ FnIn C H p rs ys dx ∧ (∀ r ∈ rs, RK r) ∧ rs.length ≤ 24 ∧ ∀ H', Same H H' → Q (.str (Txt.join "\n" rs)) H'
def spFEq2 (C : Addr) : Sp := fun vs H Q _ => ∃ (p dx : Addr) (rs ys : List Str) (y : V), vs = [.ref p, y] ∧ FnIn C H p rs ys dx ∧
  ((((∃ z, y = .str z) ∨ ∃ a xs, y = .ref a ∧ H a = some (.tup xs)) ∧ Q (.bl false) H) ∨
   ∃ (q dy : Addr) (rs' ys' : List Str), y = .ref q ∧ FnIn C H q rs' ys' dy ∧ (∀ r ∈ rs, RK r) ∧ (∀ r ∈ rs', RK r) ∧ ∀ H', Same H H' → Q (.bl (decide (rs = rs'))) H')
/-- a class method that reads texts -/
def OfW (C CB : Addr) (t : Str) (H : Hp) (Q : VK) (E : XK) : Prop := t.length + 2 ≤ sizeLine ∧ (∀ r ∈ Txt.split t "\n", Raw r) ∧ (rowsOf t).length ≤ 24 ∧
  (∀ n, Bad (rowsOf t) n → ∀ d' H', H d' = none → H' d' = some (.xd [("row", .int (n : Nat))]) → Same H H' → E (.ref CB) (some d') H') ∧
  (Good (rowsOf t) → (∀ ys, Lists (rowsOf t) ys → ys.length ≤ 3) ∧ ∀ x dx ys H', H x = none → FnIn C H' x (rowsOf t) ys dx → Lists (rowsOf t) ys → Same H H' → Q (.ref x) H')
def Sml (ts : List Str) : Prop := ts.length ≤ 24 ∧ (ts.map (·.length)).sum ≤ 4000
def spOf0 (C CB : Addr) : Sp := fun vs H Q E => ∃ (p : Addr) (ts : List Str), vs = [.ref C, .ref p] ∧ H p = some (.tup (ts.map V.str)) ∧ Sml ts ∧ OfW C CB (Txt.join "\n" ts) H Q E
def spOfF (C CB : Addr) : Sp := fun vs H Q E => ∃ (ts : List Str), vs = .ref C :: ts.map V.str ∧ Sml ts ∧ ∀ G, Same H G → OfW C CB (Txt.join "\n" ts) G Q E
def spLSpaced (K : PySem.W.Frag) : Sp := fun vs H Q _ => ∃ (b p : Addr) (n : Nat) (rows ns : List Str), vs = [.ref b, .ref p] ∧ BagAt H b n ∧ n < 800000000 ∧ H p = some (.lst (rows.map V.str)) ∧ p ≠ b ∧ (∀ r ∈ rows, DRow ns r) ∧ rows ≠ [] ∧ rows.length ≤ 24 ∧ ∀ ts H', Spds rows ts → BagAt H' b (n + 4 * rows.length) → Stay b H H' → Q (.str (Txt.join "\n" ts)) H'
def LRC (ts : List Str) (k : Nat) : Prop := (ts = [] ∧ k = 0) ∨ (ts = [("ask" : Str), ("end" : Str)] ∧ k = 1) ∨ (ts = [("pause" : Str), ("ask\n" : Str)] ∧ k = 2)
def spLRef (K : PySem.W.Frag) : Sp := fun vs H Q _ => ∃ (p : Addr) (ts : List Str) (k : Nat), vs = [.ref p] ∧ SqL K H p (ts.map V.str) ∧ LRC ts k ∧ ∀ H', Same H H' → Q (.int (k : Nat)) H'
def spLMore (K : PySem.W.Frag) (C : Addr) : Sp := fun vs H Q _ => ∃ (p r dx : Addr) (rows ys ns : List Str), vs = [.ref p, .ref r] ∧ FnIn C H p rows ys dx ∧ SqL K H r (rows.map V.str) ∧ Keeps [] rows ∧ (∀ x ∈ rows, DRow ns x) ∧ ns.length ≤ 3 ∧ rows ≠ [] ∧ rows.length ≤ 24 ∧ ∀ H', Same H H' → Q (.bl true) H'
theorem mul_sps : ∀ n : Fin 4, TL.tl (Txt.mul " " (n.val : Int)) = sps n.val := by decide +kernel
theorem mul_tl {i : Int} (h0 : 0 ≤ i) (h : i < 4) : ∃ n : Nat, i = (n : Int) ∧ n < 4 ∧ TL.tl (Txt.mul " " i) = sps n := by
  obtain ⟨n, rfl⟩ := Int.eq_ofNat_of_zero_le h0
  exact ⟨n, rfl, by omega, mul_sps ⟨n, by omega⟩⟩
theorem spds_snoc {rows ts : List Str} {i : Nat} {r t : Str} (h : Spds (rows.take i) ts) (hr : rows[i]? = some r) (hs : Spd r t) : Spds (rows.take (i + 1)) (ts ++ [t]) := by
  have hi := (List.getElem?_eq_some_iff.mp hr).1
  have hl : ts.length = i := by
    rw [h.1, List.length_take]
    omega
  refine ⟨?_, fun j r' t' hr' ht' => ?_⟩
  · rw [List.length_append, hl, List.length_take]
    show i + 1 = _
    omega
  · by_cases e : j < i
    · rw [List.getElem?_append_left (by omega)] at ht'
      rw [List.getElem?_take_of_lt (by omega)] at hr'
      exact h.2 j r' t' (by rw [List.getElem?_take_of_lt e]; exact hr') ht'
    · have hj : j = i := by
        have := (List.getElem?_eq_some_iff.mp ht').1
        rw [List.length_append] at this
        simp at this
        omega
      subst hj
      rw [List.getElem?_take_of_lt (by omega), hr] at hr'
      cases hr'
      rw [List.getElem?_append_right (by omega), hl, Nat.sub_self] at ht'
      cases ht'
      exact hs
theorem op_eqDK {X : Cx} {K : PySem.W.Frag} (hK : X.K = K) (hu : X.A.units + 64 < cLine) : OpR X (compareOp .Eq) (rEqD K) := by
  subst hK
  exact op_eqD hu
theorem raw_of {l : List Str} (h : l.all (fun r => (DVOC ++ (ODD ++ EWD)).contains r) = true) : ∀ r ∈ l, Raw r := fun r hr => by
  have := List.all_eq_true.mp h r hr
  exact (vr_of (.inl (List.contains_iff_mem.mp this))).raw
theorem lrc_ok {ts : List Str} {k : Nat} (h : LRC ts k) : SeqAt.shaped (.list (datS ts)) = true ∧ Sml ts ∧ (Txt.join "\n" ts).length + 2 ≤ sizeLine ∧ (∀ r ∈ Txt.split (Txt.join "\n" ts) "\n", Raw r) ∧ (rowsOf (Txt.join "\n" ts)).length ≤ 24 ∧ Bad (rowsOf (Txt.join "\n" ts)) k := by
  obtain ⟨b1, b2, b3⟩ := bad_of3
  obtain ⟨r1, r2, r3⟩ := bad_rows
  rcases h with ⟨rfl, rfl⟩ | ⟨rfl, rfl⟩ | ⟨rfl, rfl⟩
  · rw [r1]
    exact ⟨by decide +kernel, ⟨by decide +kernel, by decide +kernel⟩, by decide +kernel, raw_of (by decide +kernel), by decide +kernel, b1⟩
  · rw [r2]
    exact ⟨by decide +kernel, ⟨by decide +kernel, by decide +kernel⟩, by decide +kernel, raw_of (by decide +kernel), by decide +kernel, b2⟩
  · rw [r3]
    exact ⟨by decide +kernel, ⟨by decide +kernel, by decide +kernel⟩, by decide +kernel, raw_of (by decide +kernel), by decide +kernel, b3⟩
theorem rk_num {rows : List Str} (h : ∀ r ∈ rows, RK r) : (Txt.join "\n" rows).length ≤ 17 * rows.length := by
  have e1 : ("\n" : Str).length = 1 := by decide +kernel
  have hs : (rows.map (·.length)).sum ≤ 16 * rows.length := by
    induction rows with
    | nil => exact Nat.le_refl _
    | cons r rows ih =>
      have := ih fun q hq => h q (List.mem_cons_of_mem _ hq)
      have := (vr_of (h r (List.mem_cons_self ..))).len
      rw [List.map_cons, List.sum_cons, List.length_cons]
      omega
  have := PySem.StrLaws.join_length_le "\n" rows
  rw [TL.join_eq]
  rw [e1] at this
  omega
theorem more_txt {rows : List Str} (hne : rows ≠ []) : Txt.join "\n" [("ask\nread" : Str), Txt.join "\n" rows] = Txt.join "\n" ([("ask" : Str), ("read" : Str)] ++ rows) := by
  refine TL.ext_tl ?_
  have e1 : TL.tl ("ask\nread" : Str) = TL.tl ("ask" : Str) ++ (TL.tl ("\n" : Str) ++ TL.tl ("read" : Str)) := by decide +kernel
  rw [TL.join_eq, TL.join_eq, TL.join_eq, TL.tl_join, TL.tl_join, List.map_append, joinL_app _ (by simp) (by simp [hne])]
  show TL.tl ("ask\nread" : Str) ++ (TL.tl ("\n" : Str) ++ TL.tl (Str.join "\n" rows)) = (TL.tl ("ask" : Str) ++ (TL.tl ("\n" : Str) ++ TL.tl ("read" : Str))) ++ TL.tl ("\n" : Str) ++ _
  rw [TL.tl_join, e1]
  simp only [List.append_assoc]
theorem of_good {C CB : Addr} {H : Hp} {Q : VK} {E : XK} {ns rows : List Str} (hD : ∀ r ∈ rows, DRow ns r) (hn : ns.length ≤ 3) (hne : rows ≠ []) (hl : rows.length ≤ 24) (hg : Good rows)
    (k : ∀ x dx ys H', H x = none → FnIn C H' x rows ys dx → Lists rows ys → Same H H' → Q (.ref x) H') : OfW C CB (Txt.join "\n" rows) H Q E := by
  have hk : ∀ r ∈ rows, RK r := fun r hr => drow_rk (hD r hr)
  have e : rowsOf (Txt.join "\n" rows) = rows := by rw [rk_rows hk hne, drow_same hD]
  refine ⟨(rk_len hk (by omega)).1, fun r hr => ?_, by rw [e]; exact hl, fun n hb => ?_, fun _ => ⟨fun ys hL => ?_, ?_⟩⟩
  · rw [rk_split hk hne] at hr
    exact drow_raw (hD r hr)
  · rw [e] at hb
    exact (bad_good hb hg).elim
  · rw [e] at hL
    exact Nat.le_trans (drow_lists hD hL) hn
  · rw [e]
    exact k
/-- a function made of a text that reads as good rows -/
theorem mk_ok {C CB CT : Addr} {H : Hp} {W : VK} {E : XK} {ns rows : List Str} {t : Str} {x dx : Addr} (hx : H x = none) (hdx : H dx = none) (ne : dx ≠ x) (hD : ∀ r ∈ rows, DRow ns r) (hn : ns.length ≤ 3) (hl : rows.length ≤ 24) (hg : Good rows) (e : rowsOf t = rows) (ht : t.length + 2 ≤ sizeLine) (hraw : ∀ r ∈ Txt.split t "\n", Raw r)
    (k : ∀ ys H', FnIn C H' x rows ys dx → Lists rows ys → Same H H' → W .non H') : spFInit C CB CT [.ref x, .str t] (upd (upd H dx (.own x)) x (.ins C dx [])) W E := by
  have Sd : Same H (upd H dx (.own x)) := same_new (fun _ _ e => e) hdx
  have Sx : Same H (upd (upd H dx (.own x)) x (.ins C dx [])) := same_over Sd hx
  refine ⟨x, dx, t, rfl, upd_same, ht, hraw, fun h => ?_, fun _ n hb _ _ _ _ _ => ?_, fun _ _ ys hL h => ?_, fun _ _ ys hL hl3 H4 hF St => ?_⟩
  · rw [e] at h
    omega
  · rw [e] at hb
    exact (bad_good hb hg).elim
  · rw [e] at hL
    have := drow_lists hD hL
    omega
  · rw [e] at hF hL
    exact k ys H4 hF hL fun a o ea => St a o (ne_of_none ea hx) (Sx _ _ ea)
theorem mk_join {C CB CT : Addr} {H : Hp} {W : VK} {E : XK} {ns rows : List Str} {x dx : Addr} (hx : H x = none) (hdx : H dx = none) (ne : dx ≠ x) (hD : ∀ r ∈ rows, DRow ns r) (hn : ns.length ≤ 3) (hne : rows ≠ []) (hl : rows.length ≤ 24) (hg : Good rows)
    (k : ∀ ys H', FnIn C H' x rows ys dx → Lists rows ys → Same H H' → W .non H') : spFInit C CB CT [.ref x, .str (Txt.join "\n" rows)] (upd (upd H dx (.own x)) x (.ins C dx [])) W E := by
  have hk : ∀ r ∈ rows, RK r := fun r hr => drow_rk (hD r hr)
  refine mk_ok hx hdx ne hD hn hl hg (by rw [rk_rows hk hne, drow_same hD]) (rk_len hk (by omega)).1 (fun r hr => ?_) k
  rw [rk_split hk hne] at hr
  exact drow_raw (hD r hr)
theorem drow_five {ns : List Str} {r : Str} (h : DRow ns r) (hs : Txt.startswith r "each " = true) : cutS r (some 5) none = sec r := by
  rcases h with e | ⟨x, _, hx, rfl⟩
  · exact absurd hs (by
      have : ∀ r ∈ DVOC, ¬ Txt.startswith r "each " = true := by decide +kernel
      exact this r e)
  · rw [(each_five x).2, (each_row hx).2.2.2.1]
def insR (rows : List Str) (k : Nat) : List Str := rows.take k ++ [("pause" : Str)] ++ rows.drop k
def repR (rows : List Str) (k : Nat) : List Str := rows.take k ++ [("head" : Str)] ++ rows.drop (k + 1)
theorem ins_facts {ns rows : List Str} {k : Nat} (hk : k < rows.length) (hr : Keeps [] rows) (hD : ∀ r ∈ rows, DRow ns r) : (∀ r ∈ insR rows k, DRow ns r) ∧ (insR rows k).length = rows.length + 1 ∧ Good (insR rows k) ∧ insR rows k ≠ [] ∧ (insR rows k)[k]? = some "pause" ∧ insR rows k ≠ rows := by
  have hl : (insR rows k).length = rows.length + 1 := by
    unfold insR
    simp only [List.length_append, List.length_take, List.length_drop, List.length_cons, List.length_nil]
    omega
  refine ⟨fun r h => ?_, hl, ins_pause (by rw [List.take_append_drop]; exact hr 0 [] rfl), ?_, ?_, ?_⟩
  · unfold insR at h
    rcases List.mem_append.mp h with h | h
    · rcases List.mem_append.mp h with h | h
      · exact hD r (List.mem_of_mem_take h)
      · rw [List.mem_singleton.mp h]; exact drow_pl (by decide +kernel)
    · exact hD r (List.mem_of_mem_drop h)
  · intro e
    rw [e] at hl
    simp at hl
  · unfold insR
    rw [List.append_assoc, List.getElem?_append_right (by rw [List.length_take]; omega), List.length_take, Nat.min_eq_left (Nat.le_of_lt hk), Nat.sub_self]
    rfl
  · intro e
    have := congrArg List.length e
    rw [hl] at this
    omega
theorem rep_facts {ns rows : List Str} {k : Nat} {r0 : Str} (h0 : rows[k]? = some r0) (hp : r0 ∈ PL4) (hr : Keeps [] rows) (hD : ∀ r ∈ rows, DRow ns r) : (∀ r ∈ repR rows k, DRow ns r) ∧ (repR rows k).length = rows.length ∧ Good (repR rows k) ∧ repR rows k ≠ [] ∧ repR rows k ≠ rows := by
  have hk := (List.getElem?_eq_some_iff.mp h0).1
  have hl : (repR rows k).length = rows.length := by
    unfold repR
    simp only [List.length_append, List.length_take, List.length_drop, List.length_cons, List.length_nil]
    omega
  have hrow : rows = rows.take k ++ r0 :: rows.drop (k + 1) := by
    have := (List.getElem?_eq_some_iff.mp h0).2
    conv => lhs; rw [← List.take_append_drop k rows]
    rw [List.drop_eq_getElem_cons hk, this]
  refine ⟨fun r h => ?_, hl, rep_head (A := rows.take k) (B := rows.drop (k + 1)) (r := r0) (by rw [← hrow]; exact hr 0 [] rfl) hp, ?_, ?_⟩
  · unfold repR at h
    rcases List.mem_append.mp h with h | h
    · rcases List.mem_append.mp h with h | h
      · exact hD r (List.mem_of_mem_take h)
      · rw [List.mem_singleton.mp h]; exact drow_pl (by decide +kernel)
    · exact hD r (List.mem_of_mem_drop h)
  · intro e
    rw [e] at hl
    simp at hl
    omega
  · intro e
    have h1 : (repR rows k)[k]? = some "head" := by
      unfold repR
      rw [List.append_assoc, List.getElem?_append_right (by rw [List.length_take]; omega), List.length_take, Nat.min_eq_left (Nat.le_of_lt hk), Nat.sub_self]
      rfl
    rw [e, h0] at h1
    have : r0 = "head" := Option.some.inj h1
    subst this
    exact absurd hp (by decide +kernel)
theorem of_any {C CB : Addr} {H : Hp} {Q : VK} {E : XK} {ns rows : List Str} {t : Str} (hD : ∀ r ∈ rows, DRow ns r) (hn : ns.length ≤ 3) (hl : rows.length ≤ 24) (hg : Good rows) (e : rowsOf t = rows) (ht : t.length + 2 ≤ sizeLine) (hraw : ∀ r ∈ Txt.split t "\n", Raw r)
    (k : ∀ x dx ys H', H x = none → FnIn C H' x rows ys dx → Lists rows ys → Same H H' → Q (.ref x) H') : OfW C CB t H Q E := by
  refine ⟨ht, hraw, by rw [e]; exact hl, fun n hb => ?_, fun _ => ⟨fun ys hL => ?_, ?_⟩⟩
  · rw [e] at hb
    exact (bad_good hb hg).elim
  · rw [e] at hL
    exact Nat.le_trans (drow_lists hD hL) hn
  · rw [e]
    exact k
theorem exr_drow : ∀ r ∈ EXR, DRow [("q" : Str)] r := by
  intro r hr
  simp only [EXR, List.mem_cons, List.not_mem_nil, or_false] at hr
  rcases hr with h | h | h | h | h
  · exact .inl (by rw [h]; decide +kernel)
  · exact .inl (by rw [h]; decide +kernel)
  · exact .inr ⟨"q", by simp, by decide +kernel, by rw [h]; decide +kernel⟩
  · exact .inl (by rw [h]; decide +kernel)
  · exact .inl (by rw [h]; decide +kernel)
def okRaw (r : Str) : Bool := decide (r.length ≤ 16) && (decide (((wds r).map (·.length)).sum + (wds r).length ≤ 64) && (EXR.contains (spc r)))
theorem exw_raw : ∀ r ∈ Txt.split (Txt.join "\n" EXW) "\n", Raw r := by
  intro r hr
  have h : (Txt.split (Txt.join "\n" EXW) "\n").all okRaw = true := by decide +kernel
  have h := List.all_eq_true.mp h r hr
  unfold okRaw at h
  rw [Bool.and_eq_true, Bool.and_eq_true, decide_eq_true_eq, decide_eq_true_eq] at h
  obtain ⟨h1, h2, h3⟩ := h
  have hd := exr_drow _ (List.contains_iff_mem.mp h3)
  have hr := drow_raw hd
  have er := (drow_wr hd).2
  have l1 : (" " : Str).length = 1 := by decide +kernel
  refine ⟨Nat.le_trans (m := 64) (by omega) (by decide), by rw [l1]; omega, ?_, ?_⟩
  · have := hr.row
    rw [er] at this
    exact this
  · have := hr.two
    rw [er] at this
    exact this
theorem ex_len2 : (Txt.join "\n" EXW).length + 2 ≤ sizeLine ∧ Sml EXW ∧ Sml [("return" : Str)] := ⟨by decide +kernel, ⟨by decide +kernel, by decide +kernel⟩, ⟨by decide +kernel, by decide +kernel⟩⟩
theorem join1 (t : Str) : Txt.join "\n" [t] = t := by
  refine TL.ext_tl ?_
  rw [TL.join_eq, TL.tl_join]
  rfl
end Fn

set_option Elab.async false
set_option linter.all false
set_option maxRecDepth 100000
set_option maxHeartbeats 2000000
/-! a class made by a local name; a classmethod called with nothing -/
namespace ErX
open PySem PySem.Spec PyProof.Rows L2
section
variable {X : Cx} {k : Nat} {C : Addr} {sp : Sp} {E : L2.St → XK} {x m : Str} {e o : Expr} {es : List Expr} {ta : TE} {t : TA} {p pos apos : Pos}
structure MakL (P : Program) (w : World) (K : PySem.W.Frag) (mg : Str → Option Value) (base : Heap) (C : Addr) (k : Nat) (sp : Sp) : Prop where
  ex : ∃ f, Mk K C f ∧ FnX P w K mg base k f sp
def tMakL (i : Nat) (C : Addr) (sp : Sp) (E : L2.St → XK) (t : TA) : TE := fun σ H Q => σ[i]? = some (some (.ref C)) ∧ tMakX C sp E t σ H Q
theorem pe_makL {i : Nat} (c : MakL X.prog X.w X.K X.mg X.base C k sp) (hr : Room (k + 1) X.A) (hx : At X E) (ha : PA X (e :: es) t) (hN : X.N[i]? = some x := by rfl) (hv : Vis X.env.scope x := by exact Or.inl rfl) (hdb : (x == ("__debug__" : Str)) = false := by decide) (hcd : (x == ("__classdict__" : Str)) = false := by decide)
    (hs : starEach (e :: es) X.env = (false, eval e X.env) :: starEach es X.env := by rfl) (hpl : (backTo pos (starEach es X.env)).any (·.1) = false := by rfl) : PE X (.Call (.Name x p) (e :: es) [] pos) (tMakL i C sp E t) := by
  obtain ⟨f, M, F⟩ := c.ex
  refine ⟨fun pins s σ H Q I h => ?_⟩
  obtain ⟨h0, h⟩ := h
  refine wpAny_Call_Name_kw (thn ((pe_var hN hv hdb hcd).run pins s σ H (fun v H1 => v = .ref C ∧ H1 = H) I ⟨.ref C, h0, rfl, rfl⟩) fun u s0 z => ?_)
  obtain ⟨v, H1, I1, r1, ev, eH⟩ := z
  subst ev eH
  obtain rfl : u = Value.ref C := r1
  refine PySem.W.callWith_K (h₀ := X.base) I1.ok.mod.kin M.kp (thn (ha.run pos pins s0 σ _ _ I1 h) fun us s1 ⟨vs, G, J, r, q⟩ => ⟨J.kIn, ?_⟩) hs hpl
  have q := q (s1.heap.objs.size + 1) s1.heap.objs.size (J.hok.fresh (Nat.le_succ _)) (J.hok.fresh (Nat.le_refl _)) (Nat.ne_of_lt (Nat.lt_succ_self _))
  have J2 := Inv.made (C := C) J
  show wpAny _ _ (call (.ref C) us) _ _ _
  refine wpAny_call (make_map (f := f) J.kIn M.makes M.init (beq_iff_eq.mp M.fn) (codeAny_mono (F _ X.stack _ _ (Value.ref (s1.heap.objs.size + 1) :: us) (V.ref (s1.heap.objs.size + 1) :: vs) _ (E σ) (hr.make C us []) (J2.env0.make C us []) (.cons rfl r) q) fun z s' hz => ?_))
  rcases z with y | (_ | _ | _ | _)
  · exact hx σ pins _ _ y s' J2 hz
  · exact hz.elim
  · exact hz.elim
  · exact hz.elim
  · obtain ⟨v, G2, J3, rv, ev, q3⟩ := J2.after hz
    subst ev
    exact ⟨rv, .ref (s1.heap.objs.size + 1), G2, J3, rfl, q3⟩
def tClmX0 (C : Addr) (sp : Sp) (E : L2.St → XK) (ta : TE) : TE := fun σ H Q => ta σ H fun x G => x = .ref C ∧ sp [.ref C] G Q (E σ)
theorem pe_clmX0 {pl : Sem Bool} (c : ClmX X.prog X.w X.K X.mg X.base C m k sp) (hr : Room k X.A) (hx : At X E) (ho : PE X o ta)
    (ht : eval (.Call (.Attribute o m apos) [] [] pos) X.env = (do
      let ov ← eval o X.env
      standAt apos.atName
      let (f, first) ← holding [ov] (getMethod ov m pl)
      callWith pos f first (backTo pos (starEach [] X.env)) (backToKw pos (keywordEach [] X.env))) := by rfl) : PE X (.Call (.Attribute o m apos) [] [] pos) (tClmX0 C sp E ta) := by
  obtain ⟨mc, q0, g, r, cm, F⟩ := c.ex
  refine ⟨fun pins s σ H Q I h => PySem.W.methodCall_KW (pl := pl) (thn (ho.run pins s σ H _ I h) fun u s1 ⟨x, G, J, rx, ex, q⟩ => ?_) ht⟩
  subst ex
  obtain rfl : u = Value.ref C := rx
  refine ClX.getmethcm_ok J r cm fun s2 J2 => PySem.W.callWith_of rfl (PySem.W.keeps_M cm.fi) (PyProof.Rows.evalArgs_nil3 ⟨⟨ClX.pin_at J2, J2.kIn⟩, ?_⟩)
  exact thn (wpAny_call (PySem.W.method_call (ClX.pin_at J2) (run_x (us := [.ref C]) (vs := [.ref C]) F hr hx J2 (.cons rfl .nil) q))) fun _ _ y => ClX.unpinE y
end
end ErX

set_option Elab.async false
set_option linter.all false
set_option maxRecDepth 100000
set_option maxHeartbeats 4000000
namespace Ow
open PySem PySem.Spec PyProof.Rows L2 Fn ErX
local macro_rules | `(tactic| walk_at "rd") => `(tactic| repeat (first | (refine ⟨_, rfl, ?_⟩) | (refine ⟨_, _, rfl, rfl, ?_⟩) | (refine ⟨rfl, ?_⟩) | (refine ⟨_, _, rfl, ?_⟩) | (refine Or.inl ⟨_, rfl, ?_⟩) | (refine ⟨(by first | (show (0 : Int) < (_ : Int); decide) | exact Or.inl ⟨by decide, by decide⟩ | exact Or.inr ⟨by decide, by decide⟩ | exact ⟨by decide, by decide⟩ | exact ⟨by decide, by decide, by decide⟩), ?_⟩)))
local macro_rules | `(tactic| walk_at "at") => `(tactic| first | assumption | exact upd_same | exact at_new (by assumption) | (refine at_same (by assumption) ?_; walk_at "at") | (refine at_old (by assumption) ?_ ?_; (focus walk_at "ne"); walk_at "at") | (refine at_upd ?_ ?_; (focus walk_at "ne"); walk_at "at") | (refine at_stay (by assumption) ?_ ?_; (focus walk_at "ne"); walk_at "at"))
local macro_rules | `(tactic| walk_at "ex") => `(tactic| first | exact ⟨_, by assumption⟩ | exact ⟨_, upd_same⟩ | exact ⟨_, at_new (by assumption)⟩ | (refine ex_same (by assumption) ?_; walk_at "ex") | (refine ex_old (by assumption) ?_; walk_at "ex") | (refine ex_upd ?_; walk_at "ex") | (refine ex_stay (by assumption) ?_ ?_; (focus walk_at "ne"); walk_at "ex"))
local macro_rules | `(tactic| walk_at "ne") => `(tactic| first | assumption | (refine Ne.symm ?_; assumption) | (refine ne_fx (by assumption) ?_; walk_at "ex") | (refine Ne.symm (ne_fx (by assumption) ?_); walk_at "ex") | (refine ne_kx (by assumption) ?_; (apply Exists.intro; refine And.intro ?_ ?_; (focus walk_at "at"); (intro z; cases z))) | (refine Ne.symm (ne_kx (by assumption) ?_); (apply Exists.intro; refine And.intro ?_ ?_; (focus walk_at "at"); (intro z; cases z))))
section
variable {P : Program} {w : World} {K : PySem.W.Frag} {mg : Str → Option Value} {base : Heap} {C CB CT CN : Addr}
abbrev s_FunctionD_lenD : Stmt := inClass (top 27) 2
theorem sc_FunctionD_lenD : FnScope ["self"] ["self"] (defScope s_FunctionD_lenD) := ⟨rfl, rfl, rfl, by decide +kernel, rfl, by decide +kernel, by decide +kernel⟩
theorem ok_flen {f : Addr} {fd : FuncData} (F : Fun K "__len__" "Function.__len__" s_FunctionD_lenD f fd) (T : Txt mg) (R : FnK K C) : FnOk P w K mg base CX0 1 f fd ["self"] (spFLen C) := by
  refine F.ok sc_FunctionD_lenD (fun vs H Q E h => ?_) (fun cdv A outer s H vs Q E hr h => ?_)
  · obtain ⟨p, dx, rs, ys, rfl, _⟩ := h
    rfl
  · obtain ⟨p, dx, rs, ys, rfl, ⟨a, b, c, h1, h2, h3, h4⟩, k⟩ := h
    have hu := hu_of hr
    refine ⟨_, (pss_one (ps_ret (pe_callB call_len_seq (by rfl) T.n_len (by decide +kernel) (pa_cons (pe_fld (pv 0) rfl) pa_nil)))), ?_⟩
    walk_at "rd"
    refine ⟨p, C, dx, _, .ref a, rfl, h1, R.cl, R.n1, rfl, ?_⟩
    refine ⟨a, _, rfl, .inr (SqT.of h2), ?_⟩
    have := k H (fun _ _ e => e)
    rw [List.length_map]
    exact this
abbrev s_FunctionD_strD : Stmt := inClass (top 27) 3
theorem sc_FunctionD_strD : FnScope ["self"] ["self"] (defScope s_FunctionD_strD) := ⟨rfl, rfl, rfl, by decide +kernel, rfl, by decide +kernel, by decide +kernel⟩
theorem ok_fstr {f : Addr} {fd : FuncData} (F : Fun K "__str__" "Function.__str__" s_FunctionD_strD f fd) (T : Txt mg) (R : FnK K C) : FnOk P w K mg base CX0 1 f fd ["self"] (spFStr C) := by
  refine F.ok sc_FunctionD_strD (fun vs H Q E h => ?_) (fun cdv A outer s H vs Q E hr h => ?_)
  · obtain ⟨p, dx, rs, ys, rfl, _⟩ := h
    rfl
  · obtain ⟨p, dx, rs, ys, rfl, ⟨a, b, c, h1, h2, h3, h4⟩, hk, hl, k⟩ := h
    have hu := hu_of hr
    obtain ⟨n1, n2⟩ := rk_len hk (by omega)
    refine ⟨_, (pss_one (ps_ret (pe_join pe_str (pe_fld (pv 0) rfl)))), ?_⟩
    refine ⟨⟨_, rfl⟩, ?_⟩
    walk_at "rd"
    refine ⟨p, C, dx, _, .ref a, rfl, h1, R.cl, R.n1, rfl, ?_⟩
    refine ⟨_, a, rs, rfl, rfl, .inr (SqT.of h2), n2, ?_⟩
    exact k H fun _ _ e => e
abbrev s_FunctionD_eqD : Stmt := inClass (top 27) 4
theorem sc_FunctionD_eqD : FnScope ["self", "other"] ["self", "other"] (defScope s_FunctionD_eqD) := ⟨rfl, rfl, rfl, by decide +kernel, rfl, by decide +kernel, by decide +kernel⟩
theorem ok_feq {f : Addr} {fd : FuncData} (F : Fun K "__eq__" "Function.__eq__" s_FunctionD_eqD f fd) (T : Txt mg) (R : FnK K C) (RT : FnT K C) (kS : PySem.W.kitOne K (.type "str") (.ref C) = some false) (kT : PySem.W.kitOne K (.type "tuple") (.ref C) = some false) (hC : mg "Function" = some (.ref C)) : FnOk P w K mg base CX0 1 f fd ["self", "other"] (spFEq2 C) := by
  refine F.ok sc_FunctionD_eqD (fun vs H Q E h => ?_) (fun cdv A outer s H vs Q E hr h => ?_)
  · obtain ⟨p, dx, rs, ys, y, rfl, _⟩ := h
    rfl
  · obtain ⟨p, dx, rs, ys, y, rfl, hF, hy⟩ := h
    have hu := hu_of hr
    refine ⟨_, (pss_one (ps_ret (pe_and (pe_callB call_isi (by rfl) T.n_isinstance (by decide +kernel) (pa_cons (pv 1) (pa_cons (pe_glob (v := .ref C) rfl hC rfl) pa_nil))) (pe_one (pe_cmpR (op_eqD hr.units) (pe_fld (pv 0) rfl) (pe_fld (pv 1) rfl) (nomark _)))))), ?_⟩
    obtain ⟨a1, b1, c1, p1, p2, _⟩ := id hF
    rcases hy with ⟨⟨z, rfl⟩ | ⟨a, xs, rfl, ha⟩, k⟩ | ⟨q, dy, rs', ys', rfl, hG, hr1, hr2, kk⟩
    · walk_at "rd"
      refine ⟨.str z, .ref C, .type "str", .ref C, false, rfl, .own C, .base (.str z), kS, ?_⟩
      refine ⟨false, rfl, ?_⟩
      exact k
    · walk_at "rd"
      refine ⟨.ref a, .ref C, .type "tuple", .ref C, false, rfl, .own C, .base (.tup ha), kT, ?_⟩
      refine ⟨false, rfl, ?_⟩
      exact k
    · obtain ⟨a2, b2, c2, q1, q2, _⟩ := id hG
      walk_at "rd"
      refine ⟨.ref q, .ref C, .ref C, .ref C, true, rfl, .own C, fn_ty R RT hG, kit_same _, ?_⟩
      refine ⟨true, rfl, ?_⟩
      rw [if_pos rfl]
      refine ⟨_, rfl, p, C, dx, _, .ref a1, rfl, p1, R.cl, R.n1, rfl, ?_⟩
      refine ⟨_, rfl, q, C, dy, _, .ref a2, rfl, q1, R.cl, R.n1, rfl, ?_⟩
      refine ⟨.tuple (datS rs), .tuple (datS rs'), .tup (SqT.of p2) (dpAll_s _), .tup (SqT.of q2) (dpAll_s _), rk_shapedT hr1, rk_shapedT hr2, ?_⟩
      rw [eqvTS]
      exact kk H fun _ _ e => e
abbrev s_Function_of : Stmt := inClass (top 27) 1
theorem sc_Function_of : FnScope ["cls", "rows"] ["cls", "rows"] (defScope s_Function_of) := ⟨rfl, rfl, rfl, by decide +kernel, rfl, by decide +kernel, by decide +kernel⟩
theorem ok_of {f : Addr} {fd : FuncData} (F : Fun K "of" "Function.of" s_Function_of f fd) (T : Txt mg) (c_mkL : MakL P w K mg base C 5 (spFInit C CB CT)) : FnR P w K mg base (L2.CX P w) 7 f (spOfF C CB) := by
  obtain ⟨⟨oc, od, kV, doc, pm, an, cdv, ct, osl, rfl, hl, hc⟩, hk⟩ := F
  refine (StX.fn_star (CX := L2.CX P w) (N := ["cls", "rows"]) (ps := [("cls" : Str)]) (pv := "rows") (sp := spOf0 C CB) (k := 6) hl hc sc_Function_of StX.cxUp (StX.bind_star1 (B := fun us => bindArgs (PySem.W.fnOf "of" "Function.of" (defArgs s_Function_of) (defBody s_Function_of) (defScope s_Function_of) .none kV doc pm an cdv ct) { pos := us }) (fun _ => rfl) (fun _ _ _ => rfl)) (fun A outer s H vs Q E hr h => ?_)).imp fun vs H Q E h => ?_
  · obtain ⟨p, ts, rfl, hp, ⟨s1, s2⟩, n1, hraw, h24, kbad, kgood⟩ := h
    have e1 : ("\n" : Str).length = 1 := by decide +kernel
    refine ⟨_, (pss_one (ps_ret (pe_makL (i := 0) c_mkL (hr.mono (by decide)) (at_def (takes_of rfl rfl rfl rfl)) (by exact (pa_cons (pe_join pe_str (pv 1)) pa_nil))))), ?_⟩
    refine ⟨rfl, ?_⟩
    refine ⟨⟨_, rfl⟩, ?_⟩
    walk_at "rd"
    refine ⟨_, p, ts, rfl, rfl, .inr (SqT.of hp), by rw [e1]; omega, ?_⟩
    intro x dx hx hdx ne
    have Sd : Same H (upd H dx (.own x)) := same_new (fun _ _ e => e) hdx
    have Sx : Same H (upd (upd H dx (.own x)) x (.ins C dx [])) := same_over Sd hx
    refine ⟨x, dx, _, rfl, upd_same, n1, hraw, fun h => absurd h (by omega), fun _ n hb d' H' h1 h2 St => ?_, fun _ hg ys hL h => ?_, fun _ hg ys hL hl3 H4 hF St => ?_⟩
    · exact kbad n hb d' H' (none_back Sx h1) h2 fun a o ea => St a o (ne_of_none ea hx) (Sx _ _ ea)
    · exact absurd ((kgood hg).1 ys hL) (by omega)
    · exact ⟨rfl, (kgood hg).2 x dx ys H4 hx hF hL fun a o ea => St a o (ne_of_none ea hx) (Sx _ _ ea)⟩
  · obtain ⟨ts, rfl, hs, hw⟩ := h
    refine ⟨[.ref C], ts.map V.str, rfl, rfl, ?_, fun p hp => ⟨p, ts, rfl, upd_same, hs, hw _ (same_new (fun _ _ e => e) hp)⟩⟩
    rw [List.length_map]
    exact Nat.le_trans hs.1 (by decide)
end
end Ow

set_option Elab.async false
set_option linter.all false
set_option maxRecDepth 100000
set_option maxHeartbeats 4000000
namespace Ow
open PySem PySem.Spec PyProof.Rows L2 Fn ErX
local macro_rules | `(tactic| walk_at "rd") => `(tactic| repeat (first | (refine ⟨_, rfl, ?_⟩) | (refine ⟨_, _, rfl, rfl, ?_⟩) | (refine ⟨rfl, ?_⟩) | (refine ⟨_, _, rfl, ?_⟩) | (refine Or.inl ⟨_, rfl, ?_⟩) | (refine ⟨(by first | (show (0 : Int) < (_ : Int); decide) | exact Or.inl ⟨by decide, by decide⟩ | exact Or.inr ⟨by decide, by decide⟩ | exact ⟨by decide, by decide⟩ | exact ⟨by decide, by decide, by decide⟩), ?_⟩)))
local macro_rules | `(tactic| walk_at "at") => `(tactic| first | assumption | exact upd_same | exact at_new (by assumption) | (refine at_same (by assumption) ?_; walk_at "at") | (refine at_old (by assumption) ?_ ?_; (focus walk_at "ne"); walk_at "at") | (refine at_upd ?_ ?_; (focus walk_at "ne"); walk_at "at") | (refine at_stay (by assumption) ?_ ?_; (focus walk_at "ne"); walk_at "at"))
local macro_rules | `(tactic| walk_at "ex") => `(tactic| first | exact ⟨_, by assumption⟩ | exact ⟨_, upd_same⟩ | exact ⟨_, at_new (by assumption)⟩ | (refine ex_same (by assumption) ?_; walk_at "ex") | (refine ex_old (by assumption) ?_; walk_at "ex") | (refine ex_upd ?_; walk_at "ex") | (refine ex_stay (by assumption) ?_ ?_; (focus walk_at "ne"); walk_at "ex"))
local macro_rules | `(tactic| walk_at "ne") => `(tactic| first | assumption | (refine Ne.symm ?_; assumption) | (refine ne_fx (by assumption) ?_; walk_at "ex") | (refine Ne.symm (ne_fx (by assumption) ?_); walk_at "ex") | (refine ne_kx (by assumption) ?_; (apply Exists.intro; refine And.intro ?_ ?_; (focus walk_at "at"); (intro z; cases z))) | (refine Ne.symm (ne_kx (by assumption) ?_); (apply Exists.intro; refine And.intro ?_ ?_; (focus walk_at "at"); (intro z; cases z))))
def abc : Str := "abcdefghijklmnopqrstuvwxyz"
theorem abc_at : ∀ j : Fin 26, ∃ c, abc.cps[j.val]? = some c ∧ 97 ≤ c ∧ c ≤ 122 := by
  intro j
  have : ∀ j : Fin 26, (abc.cps[j.val]?).isSome = true ∧ 97 ≤ (abc.cps[j.val]?).getD 0 ∧ (abc.cps[j.val]?).getD 0 ≤ 122 := by decide +kernel
  obtain ⟨h1, h2, h3⟩ := this j
  obtain ⟨c, hc⟩ := Option.isSome_iff_exists.mp h1
  rw [hc] at h2 h3
  exact ⟨c, hc, h2, h3⟩
def Lows (i : Nat) (x : Str) : Prop := x.cps.toList.length = i ∧ (x.cps.toList.all fun c => decide (97 ≤ c) && decide (c ≤ 122)) = true
theorem lows_0 : Lows 0 "" := ⟨rfl, rfl⟩
theorem lows_add {i c : Nat} {x : Str} (h : Lows i x) (h1 : 97 ≤ c) (h2 : c ≤ 122) : Lows (i + 1) (x ++ { cps := #[c] }) := by
  obtain ⟨e, a⟩ := h
  constructor
  · rw [Str.cps_append]
    simp [e]
  · rw [Str.cps_append]
    simp only [Array.toList_append, List.all_append, a, List.all_cons, List.all_nil]
    simp [h1, h2]
theorem lows_len {i : Nat} {x : Str} (h : Lows i x) : x.length = i := by
  have := h.1
  rw [Array.length_toList] at this
  exact this
theorem lows_lc {i : Nat} {x : Str} (h : Lows i x) (h1 : 1 ≤ i) (h3 : i ≤ 3) : isLc x.cps.toList = true := by
  unfold isLc
  rw [h.1, h.2, decide_eq_true h1, decide_eq_true h3]
  rfl
def WDS : List Str := ["ask", "ask", "read", "read", "begin", "finish", "head", "body", "pause", "check"]
section
variable {P : Program} {w : World} {K : PySem.W.Frag} {mg : Str → Option Value} {base : Heap}
abbrev s_law_of : Stmt := top 31
theorem sc_law_of : FnScope ["bag", "some"] ["bag", "some"] (defScope s_law_of) := ⟨rfl, rfl, rfl, by decide +kernel, rfl, by decide +kernel, by decide +kernel⟩
theorem ok_pick {f : Addr} {fd : FuncData} (F : Fun K "_law_of" "_law_of" s_law_of f fd) (T : Txt mg) (c_take : Cal P w K mg base "_law_take" 1 spTake) : FnOk P w K mg base CX0 2 f fd ["bag", "some"] spPickV := by
  refine F.ok sc_law_of (fun vs H Q E h => ?_) (fun cdv A outer s H vs Q E hr h => ?_)
  · obtain ⟨b, l, n, xs, rfl, _⟩ := h
    rfl
  · obtain ⟨b, l, n, xs, rfl, hB, hn, hl, lb, h0, h64, k⟩ := h
    have hu := hu_of hr
    refine ⟨_, (pss_one (ps_ret (pe_ix ix_list (pv 1) (pe_cal c_take (hr.mono (by omega)) (pa_cons (pv 0) (pa_cons (pe_callB call_len_seq (by rfl) T.n_len (by decide +kernel) (pa_cons (pv 1) pa_nil)) pa_nil))) (fun _ _ => rfl)))), ?_⟩
    walk_at "rd"
    refine ⟨l, _, rfl, .inl (SqL.of hl), ?_⟩
    refine ⟨b, n, _, rfl, hB, by omega, by omega, by omega, fun r H1 r0 r1 B1 S1 => ?_⟩
    obtain ⟨i, rfl⟩ := Int.eq_ofNat_of_zero_le r0
    have hi : i < xs.length := by omega
    refine ⟨l, xs, _, xs[i], rfl, rfl, SqL.of (S1 _ _ lb hl), atI_nat (List.getElem?_eq_getElem hi), ?_⟩
    exact k i _ _ (List.getElem?_eq_getElem hi) B1 S1
abbrev s_law_names : Stmt := top 32
theorem sc_law_names : FnScope ["bag", "turn", "letters", "found", "text", "sign"] ["bag"] (defScope s_law_names) := ⟨rfl, rfl, rfl, by decide +kernel, rfl, by decide +kernel, by decide +kernel⟩
theorem ok_names {f : Addr} {fd : FuncData} (F : Fun K "_law_names" "_law_names" s_law_names f fd) (T : Txt mg) (c_take : Cal P w K mg base "_law_take" 1 spTake) : FnOk P w K mg base CX0 2 f fd ["bag"] spNames := by
  refine F.ok sc_law_names (fun vs H Q E h => ?_) (fun cdv A outer s H vs Q E hr h => ?_)
  · obtain ⟨b, n, rfl, _⟩ := h
    rfl
  · obtain ⟨b, n, rfl, hB, hn, k⟩ := h
    have hu := hu_of hr
    refine ⟨_, (pss_cons (ps_par (i := 2) (j := 3) (by rfl) sc_law_names.nd rfl rfl (by decide) rfl rfl (pa_cons pe_str (pa_cons (pe_lst pa_nil) pa_nil)) (by rfl))
      (pss_cons (ps_for PassesOwn.never rfl (pi_range1 rfl T.n_range (pa_cons (pe_op op_add pe_int (pe_cal c_take (hr.mono (by omega)) (pa_cons (pv 0) (pa_cons pe_int pa_nil)))) pa_nil)) (pg_name (i := 1) sc_law_names.nd rfl (Or.inl rfl))
      (pss_cons (ps_set (i := 4) sc_law_names.nd rfl (Or.inl rfl) pe_str)
      (pss_cons (ps_for PassesOwn.never rfl (pi_range1 rfl T.n_range (pa_cons (pe_op op_add pe_int (pe_cal c_take (hr.mono (by omega)) (pa_cons (pv 0) (pa_cons pe_int pa_nil)))) pa_nil)) (pg_name (i := 5) sc_law_names.nd rfl (Or.inl rfl))
      (pss_one (ps_set (i := 4) sc_law_names.nd rfl (Or.inl rfl) (pe_op op_add_str (pv 4) (pe_item_str (pv 2) (pe_cal c_take (hr.mono (by omega)) (pa_cons (pv 0) (pa_cons (pe_ix ix_list (pe_lst (pa_cons pe_int (pa_cons pe_int pa_nil))) (pe_cal c_take (hr.mono (by omega)) (pa_cons (pv 0) (pa_cons pe_int pa_nil))) (fun _ _ => rfl)) pa_nil))) (fun _ _ => rfl))))))
      (pss_one (ps_if (pt_cmpR op_notIn_seq (pv 4) (pv 3) rfl) (pss_one (ps_expr (pe_bm PySem.F.plainAttrs_list PySem.F.slot_list_append PySem.F.type_list_append mt_append (pv 3) (pa_cons (pv 4) pa_nil)))) pss_nil)))))
      (pss_one (ps_ret (pv 3))))), ?_⟩
    walk_at "rd"
    refine ⟨by show 0 ≤ sizeLine; decide, fun d hd => ?_⟩
    have db : d ≠ b := fun z => by
      obtain ⟨ys, e⟩ := hB.lst
      rw [← z, hd] at e
      cases e
    have S0 : Same H (upd H d (.lst [])) := same_new (fun _ _ e => e) hd
    walk_at "rd"
    refine ⟨b, n, 3, rfl, hB.same S0, by omega, by decide, by decide, fun r H1 r0 r1 B1 S1 => ?_⟩
    have hd1 : H1 d = some (.lst []) := S1 _ _ db upd_same
    walk_at "rd"
    refine ⟨by omega, by omega, ?_⟩
    refine for_range (lo := 0) (fun i σ H' => ∃ (o1 o4 o5 : Option V) (ns : List Str), σ = [some (.ref b), o1, some (.str abc), some (.ref d), o4, o5] ∧ H' d = some (.lst (ns.map V.str)) ∧ (∀ x ∈ ns, isLc x.cps.toList = true) ∧ (0 < i → ns ≠ []) ∧ ns.length ≤ i ∧ BagAt H' b (n + 1 + 10 * i) ∧ Stay b H H') ⟨none, none, none, [], rfl, hd1, fun _ h => (by cases h), fun h => absurd h (by decide), Nat.le_refl _, B1, (Stay.of S0).trans S1⟩ ?_ ?_
    · rintro i σ H' hi ⟨o1, o4, o5, ns, rfl, hW, hN, h0, hl, B4, S4⟩
      walk_at "rd"
      refine ⟨b, n + 1 + 10 * i, 3, rfl, B4, by omega, by decide, by decide, fun q H5 q0 q1 B5 S5 => ?_⟩
      walk_at "rd"
      refine ⟨by omega, by omega, ?_⟩
      refine for_range (lo := 0) (fun j σ H' => ∃ (o5 : Option V) (x : Str), σ = [some (.ref b), some (.int (0 + (i : Nat))), some (.str abc), some (.ref d), some (.str x), o5] ∧ Lows j x ∧ H' d = some (.lst (ns.map V.str)) ∧ BagAt H' b (n + 2 + 10 * i + 2 * j) ∧ Stay b H H') ⟨_, _, rfl, lows_0, S5 _ _ db hW, B5.mono (by omega), S4.trans S5⟩ ?_ ?_
      · rintro j σ H6 hj ⟨o5, x, rfl, hx, hW6, B6, S6⟩
        walk_at "rd"
        refine ⟨by show 2 ≤ sizeLine; decide, fun p hp => ?_⟩
        have Sp : Same H6 (upd H6 p (.lst [.int 3, .int 26])) := same_new (fun _ _ e => e) hp
        walk_at "rd"
        refine ⟨b, _, 2, rfl, B6.same Sp, by omega, by decide, by decide, fun r' H7 a0 a1 B7 S7 => ?_⟩
        have pb : p ≠ b := fun z => by
          obtain ⟨xs, e⟩ := B6.lst
          rw [← z, hp] at e
          cases e
        have hp2 : H7 p = some (.lst [.int 3, .int 26]) := S7 _ _ pb upd_same
        obtain ⟨m, hm, hm0, hm1⟩ : ∃ m : Int, atI [V.int 3, V.int 26] r' = some (.int m) ∧ 0 < m ∧ m ≤ 26 := by
          have : r' = 0 ∨ r' = 1 := by omega
          rcases this with rfl | rfl
          · exact ⟨3, rfl, by decide, by decide⟩
          · exact ⟨26, rfl, by decide, by decide⟩
        have S67 : Stay b H6 H7 := (Stay.of Sp).trans S7
        refine ⟨p, _, r', .int m, rfl, rfl, SqL.of hp2, hm, ?_⟩
        walk_at "rd"
        refine ⟨b, _, m, rfl, B7, by omega, hm0, by omega, fun c H8 c0 c1 B8 S8 => ?_⟩
        obtain ⟨cc, hc, cc1, cc2⟩ := abc_at ⟨c.toNat, by omega⟩
        have hj1 : c < (abc.length : Int) := by
          show c < 26
          omega
        have hj2 : c < 2 ^ 63 := by omega
        have hxl : x.length + 1 ≤ sizeLine := by
          rw [lows_len hx]
          exact Nat.le_trans (m := 64) (by omega) (by decide)
        refine ⟨abc, c, cc, rfl, rfl, c0, hj2, hj1, hc, ?_⟩
        walk_at "rd"
        refine ⟨hxl, ?_⟩
        exact ⟨_, _, rfl, lows_add hx cc1 cc2, S8 _ _ db (S67 _ _ db hW6), B8.mono (by omega), (S6.trans S67).trans S8⟩
      · rintro σ H6 ⟨o5, x, rfl, hx, hW6, B6, S6⟩
        have hxc := lows_lc hx (by omega) (by omega)
        walk_at "rd"
        refine ⟨d, _, rfl, .inl (SqL.of hW6), rfl, flatS _, ?_⟩
        walk_at "rd"
        refine ite2 (fun c => ?_) (fun c => ?_)
        · walk_at "rd"
          refine ⟨.inl ⟨rfl, _, SqL.of hW6⟩, ?_⟩
          walk_at "rd"
          refine ⟨d, _, _, rfl, rfl, hW6, by rw [List.length_map]; exact Nat.lt_of_lt_of_le (m := 64) (by omega) (by decide), ?_⟩
          refine ⟨_, _, _, ns ++ [x], rfl, by rw [upd_same, List.map_append]; rfl, fun y hy => ?_, fun _ => by simp, by rw [List.length_append]; exact Nat.succ_le_succ hl, ?_, stay_over S6 hd⟩
          · rcases List.mem_append.mp hy with hy | hy
            · exact hN y hy
            · rw [List.mem_singleton.mp hy]; exact hxc
          · obtain ⟨d1, m1, k1, e1, e2⟩ := B6.mono (show _ ≤ n + 1 + 10 * (i + 1) by omega)
            exact ⟨d1, m1, k1, (upd_ne db.symm).trans e1, e2⟩
        · refine ⟨_, _, _, ns, rfl, hW6, hN, fun _ e => ?_, by omega, B6.mono (by omega), S6⟩
          subst e
          exact absurd rfl c
    · rintro σ H' ⟨o1, o4, o5, ns, rfl, hW, hN, h0, hl, B4, S4⟩
      walk_at "rd"
      exact k d ns _ H' (h0 (by omega)) (by omega) hN (by omega) hd hW B4 S4
abbrev s_law_may_reset : Stmt := top 33
theorem sc_law_may_reset : FnScope ["around", "word", "part"] ["around", "word"] (defScope s_law_may_reset) := ⟨rfl, rfl, rfl, by decide +kernel, rfl, by decide +kernel, by decide +kernel⟩
theorem ok_mayr {f : Addr} {fd : FuncData} (F : Fun K "_law_may_reset" "_law_may_reset" s_law_may_reset f fd) (T : Txt mg) : FnOk P w K mg base CX0 1 f fd ["around", "word"] (spMayR K) := by
  refine F.ok sc_law_may_reset (fun vs H Q E h => ?_) (fun cdv A outer s H vs Q E hr h => ?_)
  · obtain ⟨p, z, ps, rfl, _⟩ := h
    rfl
  · obtain ⟨p, z, ps, rfl, hp, k⟩ := h
    have hu := hu_of hr
    refine ⟨_, (pss_cons (ps_if (pt_cmpR op_notIn_seq pe_str (pv 0) rfl) (pss_one (ps_ret pe_bl)) pss_nil)
      (pss_cons (ps_for PassesOwn.never rfl (pi_list (pe_slice sl_list (pv 0) (po_some (pe_bm PySem.F.plainAttrs_list PySem.F.slot_list_index PySem.F.type_list_index mt_index (pv 0) (pa_cons pe_str pa_nil))) po_none)) (pg_name (i := 2) sc_law_may_reset.nd rfl (Or.inl rfl))
      (pss_cons (ps_if (pt_cmpR op_eq (pv 2) pe_str (nomark _)) (pss_one (ps_ret pe_bl)) pss_nil)
      (pss_one (ps_if (PW.pt (pw_and (pt_cmpR op_eq (pv 2) pe_str (nomark _)) (pw_and1 (pt_cmpR op_eq (pv 1) pe_str (nomark _))))) (pss_one (ps_ret pe_bl)) pss_nil))))
      (pss_one (ps_ret pe_bl)))), ?_⟩
    have S0 : Same H H := fun _ _ e => e
    walk_at "rd"
    refine ⟨p, _, rfl, .inl hp, rfl, flatS _, ?_⟩
    walk_at "rd"
    refine ite2 (fun h1 => ?_) (fun h1 => ?_)
    · have n1 : inS ps "each" = false := by
        have : (!inS ps "each") = true := h1
        simpa using this
      have e : mayR ps z = true := by unfold mayR; rw [if_pos n1]
      walk_at "rd"
      rw [← e]
      exact k _ S0
    · have n1 : inS ps "each" = true := by
        have : ¬ (!inS ps "each") = true := h1
        simpa using this
      walk_at "rd"
      refine ⟨.inl ⟨rfl, _, hp⟩, ?_⟩
      walk_at "rd"
      refine ⟨p, _, _, ps.idxOf ("each" : Str), _, rfl, rfl, hp, rfl, flatS _, idx_at n1, beq_self_eq_true _, fun m z' h e => idx_no m z' h e, ?_⟩
      walk_at "rd"
      have hid : ps.idxOf ("each" : Str) ≤ (ps.map V.str).length := by
        have := idx_lt n1
        rw [List.length_map]
        omega
      refine ⟨p, _, rfl, hp, fun q hq => ?_⟩
      rw [cut_from hid]
      have er : mayR ps z = scanP z (ps.drop (ps.idxOf ("each" : Str))) := by unfold mayR; rw [if_neg (by rw [n1]; decide)]
      rw [er] at k
      have ed : (ps.map V.str).drop (ps.idxOf ("each" : Str)) = (ps.drop (ps.idxOf ("each" : Str))).map V.str := by rw [List.map_drop]
      rw [ed]
      clear hid er ed
      generalize ps.drop (ps.idxOf ("each" : Str)) = M at k
      have S2 := same_new (o := .lst (M.map V.str)) S0 hq
      have hq2 : (upd H q (.lst (M.map V.str))) q = some (.lst (M.map V.str)) := upd_same
      generalize upd H q (.lst (M.map V.str)) = H2 at S2 hq2
      refine ⟨q, rfl, ⟨_, SqL.of hq2⟩, for_list (a := q) (xs := M.map V.str) (fun i σ H' => (∃ o2 : Option V, σ = [some (.ref p), some (.str z), o2]) ∧ scanP z M = scanP z (M.drop i) ∧ Same H2 H') ⟨⟨none, rfl⟩, rfl, fun _ _ e => e⟩ (fun i σ H' _ h => SqL.of (h.2.2 _ _ hq2)) ?_ ?_⟩
      · rintro i v σ H' hi ⟨⟨o2, rfl⟩, hs, S5⟩
        rw [List.getElem?_map] at hi
        obtain ⟨y, hy, rfl⟩ := Option.map_eq_some_iff.mp hi
        have hd : M.drop i = y :: M.drop (i + 1) := by
          obtain ⟨h1, h2⟩ := List.getElem?_eq_some_iff.mp hy
          rw [← h2]
          exact List.drop_eq_getElem_cons h1
        have hs2 : scanP z M = if y = "rescue" then true else if y = "retry" ∧ z = "close" then false else scanP z (M.drop (i + 1)) := by rw [hs, hd]; rfl
        walk_at "rd"
        refine ite2 (fun h2 => ?_) (fun h2 => ?_)
        · walk_at "rd"
          have := k _ (same_trans S2 S5)
          rw [hs2, if_pos (eqS h2)] at this
          exact this
        · rw [if_neg (neS h2)] at hs2
          walk_at "rd"
          refine ite2 (fun h3 => ?_) (fun h3 => ?_)
          · walk_at "rd"
            refine ite2 (fun h4 => ?_) (fun h4 => ?_)
            · walk_at "rd"
              have := k _ (same_trans S2 S5)
              rw [hs2, if_pos ⟨eqS h3, eqS h4⟩] at this
              exact this
            · rw [if_neg (fun e => neS h4 e.2)] at hs2
              exact ⟨⟨_, rfl⟩, hs2, S5⟩
          · rw [if_neg (fun e => neS h3 e.1)] at hs2
            exact ⟨⟨_, rfl⟩, hs2, S5⟩
      · rintro σ H' ⟨⟨o2, rfl⟩, hs, S5⟩
        rw [List.length_map, List.drop_length] at hs
        walk_at "rd"
        have := k _ (same_trans S2 S5)
        rw [hs] at this
        exact this
end
end Ow

set_option Elab.async false
set_option linter.all false
set_option maxRecDepth 100000
set_option maxHeartbeats 4000000
namespace Ow
open PySem PySem.Spec PyProof.Rows L2 Fn ErX
local macro_rules | `(tactic| walk_at "rd") => `(tactic| repeat (first | (refine ⟨_, rfl, ?_⟩) | (refine ⟨_, _, rfl, rfl, ?_⟩) | (refine ⟨rfl, ?_⟩) | (refine ⟨_, _, rfl, ?_⟩) | (refine Or.inl ⟨_, rfl, ?_⟩) | (refine ⟨(by first | (show (0 : Int) < (_ : Int); decide) | exact Or.inl ⟨by decide, by decide⟩ | exact Or.inr ⟨by decide, by decide⟩ | exact ⟨by decide, by decide⟩ | exact ⟨by decide, by decide, by decide⟩), ?_⟩)))
local macro_rules | `(tactic| walk_at "at") => `(tactic| first | assumption | exact upd_same | exact at_new (by assumption) | (refine at_same (by assumption) ?_; walk_at "at") | (refine at_old (by assumption) ?_ ?_; (focus walk_at "ne"); walk_at "at") | (refine at_upd ?_ ?_; (focus walk_at "ne"); walk_at "at") | (refine at_stay (by assumption) ?_ ?_; (focus walk_at "ne"); walk_at "at"))
local macro_rules | `(tactic| walk_at "ex") => `(tactic| first | exact ⟨_, by assumption⟩ | exact ⟨_, upd_same⟩ | exact ⟨_, at_new (by assumption)⟩ | (refine ex_same (by assumption) ?_; walk_at "ex") | (refine ex_old (by assumption) ?_; walk_at "ex") | (refine ex_upd ?_; walk_at "ex") | (refine ex_stay (by assumption) ?_ ?_; (focus walk_at "ne"); walk_at "ex"))
local macro_rules | `(tactic| walk_at "ne") => `(tactic| first | assumption | (refine Ne.symm ?_; assumption) | (refine ne_fx (by assumption) ?_; walk_at "ex") | (refine Ne.symm (ne_fx (by assumption) ?_); walk_at "ex") | (refine ne_kx (by assumption) ?_; (apply Exists.intro; refine And.intro ?_ ?_; (focus walk_at "at"); (intro z; cases z))) | (refine Ne.symm (ne_kx (by assumption) ?_); (apply Exists.intro; refine And.intro ?_ ?_; (focus walk_at "at"); (intro z; cases z))))
theorem nb_of {b p : Addr} {n : Nat} {H : Hp} (B : BagAt H b n) (h : H p = none) : p ≠ b := fun z => by
  obtain ⟨d, m, k, e, _⟩ := B
  rw [z, e] at h
  cases h
/-- the words that a plain row is drawn of -/
def pws (ps : List Str) : List Str := WDS ++ ((["drain", "close"] : List Str).filter fun z => mayR ps z) ++ (if (!inS ps "finally" && !inS ps "rescue") = true then [("return" : Str)] else [])
theorem pws_ok {ps : List Str} {r : Str} (h : r ∈ pws ps) : r ∈ PLN ∧ isW r ps = false := by
  have f : ∀ r ∈ WDS, r ∈ PLN ∧ r ≠ "return" ∧ inS ["drain", "close"] r = false := by decide +kernel
  have g : ∀ r ∈ (["drain", "close"] : List Str), r ∈ PLN ∧ r ≠ "return" := by decide +kernel
  unfold pws at h
  rcases List.mem_append.mp h with h | h
  · rcases List.mem_append.mp h with h | h
    · obtain ⟨h1, h2, h3⟩ := f r h
      refine ⟨h1, ?_⟩
      rw [pln_isW h1, if_neg h2, h3]
      rfl
    · obtain ⟨h1, h2⟩ := List.mem_filter.mp h
      obtain ⟨h3, h4⟩ := g r h1
      refine ⟨h3, ?_⟩
      rw [pln_isW h3, if_neg h4, h2]
      simp
  · by_cases e : (!inS ps "finally" && !inS ps "rescue") = true
    · rw [if_pos e] at h
      have h := List.mem_singleton.mp h
      have h3 : ("return" : Str) ∈ PLN := by decide +kernel
      rw [h]
      refine ⟨h3, ?_⟩
      rw [pln_isW h3, if_pos rfl]
      rw [Bool.and_eq_true, Bool.not_eq_true', Bool.not_eq_true'] at e
      rw [e.1, e.2]
      rfl
    · rw [if_neg e] at h
      cases h
theorem pws_len (ps : List Str) : 0 < (pws ps).length ∧ (pws ps).length ≤ 13 := by
  unfold pws
  have h1 := List.length_filter_le (fun z => mayR ps z) (["drain", "close"] : List Str)
  rw [List.length_append, List.length_append]
  have : WDS.length = 10 := rfl
  have h2 : (if (!inS ps "finally" && !inS ps "rescue") = true then [("return" : Str)] else []).length ≤ 1 := by split <;> decide
  have h3 : (["drain", "close"] : List Str).length = 2 := rfl
  omega
section
variable {P : Program} {w : World} {K : PySem.W.Frag} {mg : Str → Option Value} {base : Heap}
abbrev s_law_plain : Stmt := top 34
theorem sc_law_plain : FnScope ["bag", "around", "words", "word"] ["bag", "around"] (defScope s_law_plain) := ⟨rfl, rfl, rfl, by decide +kernel, rfl, by decide +kernel, by decide +kernel⟩
theorem ok_plainR {f : Addr} {fd : FuncData} (F : Fun K "_law_plain" "_law_plain" s_law_plain f fd) (T : Txt mg) (c_mayr : Cal P w K mg base "_law_may_reset" 1 (spMayR K)) (c_pick : Cal P w K mg base "_law_of" 2 spPickV) : FnOk P w K mg base CX0 3 f fd ["bag", "around"] spPlainR := by
  refine F.ok sc_law_plain (fun vs H Q E h => ?_) (fun cdv A outer s H vs Q E hr h => ?_)
  · obtain ⟨b, p, n, ps, rfl, _⟩ := h
    rfl
  · obtain ⟨b, p, n, ps, rfl, hB, hn, hp, pb, hl, k⟩ := h
    have hu := hu_of hr
    refine ⟨_, (pss_cons (ps_set (i := 2) sc_law_plain.nd rfl (Or.inl rfl) (pe_lst (pa_cons pe_str (pa_cons pe_str (pa_cons pe_str (pa_cons pe_str (pa_cons pe_str (pa_cons pe_str (pa_cons pe_str (pa_cons pe_str (pa_cons pe_str (pa_cons pe_str pa_nil))))))))))))
      (pss_cons (ps_set (i := 2) sc_law_plain.nd rfl (Or.inl rfl) (pe_op op_cat (pv 2) (pe_lc (own := [("word", 3)]) (g := gName 3) (by rfl) sc_law_plain.nd (pi_list (pe_lst (pa_cons pe_str (pa_cons pe_str pa_nil)))) (blkOk_by (own := [("word", 3)]) (N := ["bag", "around", "words", "word"]) (sc := defScope s_law_plain) (by decide +kernel)) (fun _ _ _ _ _ => (pg_name (i := 3) sc_law_plain.nd rfl (Or.inl rfl))) (fun _ _ _ _ _ => (pts_one (pt_val (pe_cal c_mayr (hr.mono (by omega)) (pa_cons (pv 1) (pa_cons (pv 3) pa_nil)))))) (fun _ _ _ _ _ => (pv 3)))))
      (pss_cons (ps_if (PW.pt (pw_and (pt_cmpR op_notIn_seq pe_str (pv 1) rfl) (pw_and1 (pt_cmpR op_notIn_seq pe_str (pv 1) rfl)))) (pss_one (ps_expr (pe_bm PySem.F.plainAttrs_list PySem.F.slot_list_append PySem.F.type_list_append mt_append (pv 2) (pa_cons pe_str pa_nil)))) pss_nil)
      (pss_one (ps_ret (pe_cal c_pick (hr.mono (by omega)) (pa_cons (pv 0) (pa_cons (pv 2) pa_nil)))))))), ?_⟩
    walk_at "rd"
    refine ⟨by show 10 ≤ sizeLine; decide, fun l hl => ?_⟩
    have S1 := same_new (o := .lst (WDS.map V.str)) (fun a u (e : H a = some u) => e) hl
    have f1 : (upd H l (.lst (WDS.map V.str))) l = some (.lst (WDS.map V.str)) := upd_same
    have S1 : Same H (upd H l (.lst [V.str "ask", V.str "ask", V.str "read", V.str "read", V.str "begin", V.str "finish", V.str "head", V.str "body", V.str "pause", V.str "check"])) := S1
    have f1 : (upd H l (.lst [V.str "ask", V.str "ask", V.str "read", V.str "read", V.str "begin", V.str "finish", V.str "head", V.str "body", V.str "pause", V.str "check"])) l = some (.lst (WDS.map V.str)) := f1
    generalize upd H l (.lst [V.str "ask", V.str "ask", V.str "read", V.str "read", V.str "begin", V.str "finish", V.str "head", V.str "body", V.str "pause", V.str "check"]) = G1 at S1 f1
    walk_at "rd"
    refine ⟨by show 2 ≤ sizeLine; decide, fun q hq => ?_⟩
    have T2 := same_new (o := .lst [V.str "drain", V.str "close"]) (fun a u (e : G1 a = some u) => e) hq
    have g2 : (upd G1 q (.lst [V.str "drain", V.str "close"])) q = some (.lst ((["drain", "close"] : List Str).map V.str)) := upd_same
    have f1 := T2 _ _ f1
    have S2 := same_trans S1 T2
    have hp2 := S2 _ _ hp
    generalize upd G1 q (.lst [V.str "drain", V.str "close"]) = G2 at S2 g2 f1 hp2
    clear S1 T2 hq
    refine ⟨q, rfl, ⟨_, SqL.of g2⟩, fun D hD => lc_list (a := q) (xs := (["drain", "close"] : List Str).map V.str) (fun i H' => H' D = some (.lst ((((["drain", "close"] : List Str).take i).filter fun z => mayR ps z).map V.str)) ∧ Same G2 H') ⟨upd_same, same_new (fun _ _ e => e) hD⟩ (fun i H' _ h => SqL.of (h.2 _ _ g2)) ?_ ?_⟩
    · rintro i v H' hi ⟨ha, S5⟩
      rw [List.getElem?_map] at hi
      obtain ⟨y, hy, rfl⟩ := Option.map_eq_some_iff.mp hi
      have et : (["drain", "close"] : List Str).take (i + 1) = (["drain", "close"] : List Str).take i ++ [y] := by rw [List.take_succ, hy]; rfl
      refine ⟨rfl, ?_⟩
      walk_at "rd"
      refine ⟨p, y, ps, rfl, SqL.of (S5 _ _ hp2), fun H6 S6 => ?_⟩
      have ha := S6 _ _ ha
      have S5 := same_trans S5 S6
      walk_at "rd"
      refine ite2 (fun c => ?_) (fun c => ?_)
      · walk_at "rd"
        refine ⟨_, ha, ?_, ?_, same_over S5 hD⟩
        · rw [List.length_map]
          have h1 := List.length_filter_le (fun z => mayR ps z) ((["drain", "close"] : List Str).take i)
          rw [List.length_take] at h1
          have h3 : (["drain", "close"] : List Str).length = 2 := rfl
          exact Nat.lt_of_lt_of_le (m := 64) (by omega) (by decide)
        · rw [upd_same, et, List.filter_append, List.map_append]
          simp only [List.filter_cons, c, List.filter_nil]
          rfl
      · refine ⟨?_, S5⟩
        rw [ha, et, List.filter_append, List.map_append]
        simp only [List.filter_cons, c, List.filter_nil]
        simp
    rintro H3 ⟨hD, S23⟩
    have e2 : (["drain", "close"] : List Str).take ((["drain", "close"] : List Str).map V.str).length = (["drain", "close"] : List Str) := rfl
    rw [e2] at hD
    have f1 := S23 _ _ f1
    have hp3 := S23 _ _ hp2
    have S3 := same_trans S2 S23
    clear S2 S23 g2 hp2
    have h1 := List.length_filter_le (fun z => mayR ps z) (["drain", "close"] : List Str)
    have h3 : (["drain", "close"] : List Str).length = 2 := rfl
    refine ⟨l, D, _, _, rfl, rfl, f1, hD, ?_, fun q2 hq2 => ?_⟩
    · rw [List.length_map, List.length_map]
      have : WDS.length = 10 := rfl
      exact Nat.le_trans (m := 64) (by omega) (by decide)
    have S4 := same_new (o := .lst (WDS.map V.str ++ ((["drain", "close"] : List Str).filter fun z => mayR ps z).map V.str)) S3 hq2
    have f2 : (upd H3 q2 (.lst (WDS.map V.str ++ ((["drain", "close"] : List Str).filter fun z => mayR ps z).map V.str))) q2 = some (.lst ((WDS ++ ((["drain", "close"] : List Str).filter fun z => mayR ps z)).map V.str)) := by rw [upd_same, List.map_append]
    generalize upd H3 q2 (.lst (WDS.map V.str ++ ((["drain", "close"] : List Str).filter fun z => mayR ps z).map V.str)) = G4 at S4 f2
    have hp4 := S4 _ _ hp
    have n2 : H q2 = none := none_back S3 hq2
    clear S3 hp3 f1 hD hq2
    have fin : ∀ (H5 : Hp) (ws : List Str), ws = pws ps → H5 q2 = some (.lst (ws.map V.str)) → Stay b H H5 → BagAt H5 b n → (tRet (tCal spPickV (tCons (tVar 0) (tCons (tVar 2) tNil)))) { nx := fun _ H' => Q .non H', rt := Q } [some (.ref b), some (.ref p), some (.ref q2), none] H5 := fun H5 ws e h S B => by
      subst e
      have hl := pws_len ps
      walk_at "rd"
      refine ⟨b, q2, n, _, rfl, B, by omega, h, nb_of hB n2, by rw [List.length_map]; omega, by rw [List.length_map]; omega, fun i v H' hi B' S' => ?_⟩
      rw [List.getElem?_map] at hi
      obtain ⟨y, hy, rfl⟩ := Option.map_eq_some_iff.mp hi
      obtain ⟨h1, h2⟩ := pws_ok (List.mem_of_getElem? hy)
      exact k y H' h1 h2 B' (S.trans S')
    walk_at "rd"
    refine ⟨p, _, rfl, .inl (SqL.of hp4), rfl, flatS _, ?_⟩
    have no : (!inS ps "finally" && !inS ps "rescue") = false → WDS ++ ((["drain", "close"] : List Str).filter fun z => mayR ps z) = pws ps := fun e => by
      unfold pws
      rw [e, if_neg Bool.false_ne_true, List.append_nil]
    refine ⟨_, rfl, ite2 (fun c1 => ?_) (fun c1 => ?_)⟩
    · have c1 : (!inS ps "finally") = true := c1
      walk_at "rd"
      refine ⟨p, _, rfl, .inl (SqL.of hp4), rfl, flatS _, ?_⟩
      walk_at "rd"
      refine ite2 (fun c2 => ?_) (fun c2 => ?_)
      · have c2 : (!inS ps "rescue") = true := c2
        walk_at "rd"
        refine ⟨.inl ⟨rfl, _, SqL.of f2⟩, ?_⟩
        walk_at "rd"
        refine ⟨q2, _, _, rfl, rfl, f2, ?_, ?_⟩
        · rw [List.length_map, List.length_append]
          have : WDS.length = 10 := rfl
          exact Nat.lt_of_lt_of_le (m := 64) (by omega) (by decide)
        refine fin _ _ ?_ (by rw [upd_same]; exact congrArg (fun z => some (HO.lst z)) (List.map_append (l₂ := [("return" : Str)])).symm) (stay_over (Stay.of S4) n2) ?_
        · unfold pws
          rw [c1, c2]
          rfl
        · obtain ⟨d, m, kk, e1, e3⟩ := hB.same S4
          exact ⟨d, m, kk, (upd_ne (nb_of hB n2).symm).trans e1, e3⟩
      · have c2 : ¬ (!inS ps "rescue") = true := c2
        exact fin _ _ (no (by rw [not_tt c2, Bool.and_false])) f2 (Stay.of S4) (hB.same S4)
    · have c1 : ¬ (!inS ps "finally") = true := c1
      exact fin _ _ (no (by rw [not_tt c1]; rfl)) f2 (Stay.of S4) (hB.same S4)
end
end Ow

set_option Elab.async false
set_option linter.all false
set_option maxRecDepth 100000
set_option maxHeartbeats 4000000
namespace Ow
open PySem PySem.Spec PyProof.Rows L2 Fn ErX
local macro_rules | `(tactic| walk_at "rd") => `(tactic| repeat (first | (refine ⟨_, rfl, ?_⟩) | (refine ⟨_, _, rfl, rfl, ?_⟩) | (refine ⟨rfl, ?_⟩) | (refine ⟨_, _, rfl, ?_⟩) | (refine Or.inl ⟨_, rfl, ?_⟩) | (refine ⟨(by first | (show (0 : Int) < (_ : Int); decide) | exact Or.inl ⟨by decide, by decide⟩ | exact Or.inr ⟨by decide, by decide⟩ | exact ⟨by decide, by decide⟩ | exact ⟨by decide, by decide, by decide⟩), ?_⟩)))
local macro_rules | `(tactic| walk_at "at") => `(tactic| first | assumption | exact upd_same | exact at_new (by assumption) | (refine at_same (by assumption) ?_; walk_at "at") | (refine at_old (by assumption) ?_ ?_; (focus walk_at "ne"); walk_at "at") | (refine at_upd ?_ ?_; (focus walk_at "ne"); walk_at "at") | (refine at_stay (by assumption) ?_ ?_; (focus walk_at "ne"); walk_at "at"))
local macro_rules | `(tactic| walk_at "ex") => `(tactic| first | exact ⟨_, by assumption⟩ | exact ⟨_, upd_same⟩ | exact ⟨_, at_new (by assumption)⟩ | (refine ex_same (by assumption) ?_; walk_at "ex") | (refine ex_old (by assumption) ?_; walk_at "ex") | (refine ex_upd ?_; walk_at "ex") | (refine ex_stay (by assumption) ?_ ?_; (focus walk_at "ne"); walk_at "ex"))
local macro_rules | `(tactic| walk_at "ne") => `(tactic| first | assumption | (refine Ne.symm ?_; assumption) | (refine ne_fx (by assumption) ?_; walk_at "ex") | (refine Ne.symm (ne_fx (by assumption) ?_); walk_at "ex") | (refine ne_kx (by assumption) ?_; (apply Exists.intro; refine And.intro ?_ ?_; (focus walk_at "at"); (intro z; cases z))) | (refine Ne.symm (ne_kx (by assumption) ?_); (apply Exists.intro; refine And.intro ?_ ?_; (focus walk_at "at"); (intro z; cases z))))
theorem each_sp (x : Str) : ("each" : Str) ++ (((" " : Str)) ++ x) = ("each " : Str) ++ x := by
  refine TL.ext_tl ?_
  rw [TL.tl_append, TL.tl_append, TL.tl_append, ← List.append_assoc]
  congr 1
theorem retry_sp : ∀ r : Fin 3, ("retry" : Str) ++ ((" " : Str) ++ Str.ofString (toString (1 + ((r.val : Nat) : Int)))) ∈ DVOC ∧ hd (("retry" : Str) ++ ((" " : Str) ++ Str.ofString (toString (1 + ((r.val : Nat) : Int))))) = "retry" := by decide +kernel
theorem same_sp : ∀ z ∈ (["maybe", "try", "shield"] : List Str), z ++ ("" : Str) = z ∧ hd z = z ∧ inS OPN z = true ∧ z ∈ DVOC ∧ z ≠ "each" ∧ z ≠ "retry" := by decide +kernel
theorem ner : ¬ (Sum.inr ("each" : Str) : Key) = Sum.inr ("retry" : Str) := fun e => by
  have e : ("each" : Str) = "retry" := Sum.inr.inj e
  exact absurd e (by decide +kernel)
theorem BagAt.lstx {H : Hp} {b : Addr} {n : Nat} (h : BagAt H b n) : ∃ o, H b = some o := by
  obtain ⟨d, m, k, e, _⟩ := h
  exact ⟨_, e⟩
theorem none_stay {b a : Addr} {H H' : Hp} (s : Stay b H H') (hb : ∃ o, H b = some o) (h : H' a = none) (hx : ∃ o, H' b = some o) : H a = none := by
  by_cases z : a = b
  · obtain ⟨o, e⟩ := hx
    rw [z, e] at h
    cases h
  · cases e : H a with
    | none => rfl
    | some o => rw [s _ _ z e] at h; cases h
/-- what a block's first word is drawn of -/
structure BWd (ps : List Str) (y : Str) : Prop where
  nam : y = "each" ∨ y = "retry" ∨ y ∈ (["maybe", "try", "shield"] : List Str)
  ea : y = "each" → inS ps "each" = false
  re : y = "retry" → ps.countP (· == ("retry" : Str)) < 2
section
variable {P : Program} {w : World} {K : PySem.W.Frag} {mg : Str → Option Value} {base : Heap}
abbrev s_law_block : Stmt := top 35
theorem sc_law_block : FnScope ["bag", "names", "left", "around", "words", "word", "first", "rows", "middle", "one"] ["bag", "names", "left", "around"] (defScope s_law_block) := ⟨rfl, rfl, rfl, by decide +kernel, rfl, by decide +kernel, by decide +kernel⟩
theorem ok_block {d lv : Nat} (hlv : 3 ≤ lv) {f : Addr} {fd : FuncData} (F : Fun K "_law_block" "_law_block" s_law_block f fd) (T : Txt mg) (c_take : Cal P w K mg base "_law_take" 1 spTake) (c_pick : Cal P w K mg base "_law_of" 2 spPickV) (c_group : Cal P w K mg base "_law_group" lv (spGrp d)) : FnOk P w K mg base CX0 (lv + 1) f fd ["bag", "names", "left", "around"] (spBlk d) := by
  refine F.ok sc_law_block (fun vs H Q E h => ?_) (fun cdv A outer s H vs Q E hr h => ?_)
  · obtain ⟨b, N, p, n, left, ns, ps, rfl, _⟩ := h
    rfl
  · obtain ⟨b, N, p, n, left, ns, ps, rfl, hB, hn, hps, hN, Nb, ns0, ns3, nsl, hp, pb, hleft, hleft2, k⟩ := h
    have hu := hu_of hr
    refine ⟨_, (pss_cons (ps_set (i := 4) sc_law_block.nd rfl (Or.inl rfl) (pe_op op_cat (pe_lst (pa_cons pe_str (pa_cons pe_str (pa_cons pe_str (pa_cons pe_str pa_nil))))) (pe_op op_rep (pe_lst (pa_cons pe_str (pa_cons pe_str pa_nil))) (pe_callTy call_int1 (by rfl) T.n_int (by decide +kernel) (pa_cons (pe_cmpR op_notIn_seq pe_str (pv 3) rfl) pa_nil)))))
      (pss_cons (ps_set (i := 5) sc_law_block.nd rfl (Or.inl rfl) (pe_cal c_pick (hr.mono (by omega)) (pa_cons (pv 0) (pa_cons (pe_op op_cat (pv 4) (pe_op op_rep (pe_lst (pa_cons pe_str pa_nil)) (pe_callTy call_int1 (by rfl) T.n_int (by decide +kernel) (pa_cons (pe_cmpR op_lt (pe_callB call_len_seq (by rfl) T.n_len (by decide +kernel) (pa_cons (pe_lc (own := [("one", 9)]) (g := gName 9) (by rfl) sc_law_block.nd (pi_list (pv 3)) (blkOk_by (own := [("one", 9)]) (N := ["bag", "names", "left", "around", "words", "word", "first", "rows", "middle", "one"]) (sc := defScope s_law_block) (by decide +kernel)) (fun _ _ _ _ _ => (pg_name (i := 9) sc_law_block.nd rfl (Or.inl rfl))) (fun _ _ _ _ _ => (pts_one (pt_cmpR op_eq (pv 9) pe_str (nomark _)))) (fun _ _ _ _ _ => (pv 9))) pa_nil)) pe_int (nomark _)) pa_nil)))) pa_nil))))
      (pss_cons (ps_set (i := 6) sc_law_block.nd rfl (Or.inl rfl) (pe_op op_add_str (pv 5) (pe_dget2 hu (pe_disp (pps_cons pe_str (pe_op op_add_str pe_str (pe_cal c_pick (hr.mono (by omega)) (pa_cons (pv 0) (pa_cons (pv 1) pa_nil)))) (pps_cons pe_str (pe_op op_add_str pe_str (pe_callTy call_str_int (by rfl) T.n_str (by decide +kernel) (pa_cons (pe_op op_add pe_int (pe_cal c_take (hr.mono (by omega)) (pa_cons (pv 0) (pa_cons pe_int pa_nil)))) pa_nil))) pps_nil)) (by rfl) (by rfl) (fun z => by cases z) (by decide)) (pv 5) pe_str ⟨rfl, rfl, rfl, rfl⟩)))
      (pss_cons (ps_set (i := 7) sc_law_block.nd rfl (Or.inl rfl) (pe_op op_cat (pe_lst (pa_cons (pv 6) pa_nil)) (pe_cal c_group (hr.mono (by omega)) (pa_cons (pv 0) (pa_cons (pv 1) (pa_cons (pe_op op_sub (pv 2) pe_int) (pa_cons (pe_op op_cat (pv 3) (pe_lst (pa_cons (pv 5) pa_nil))) pa_nil)))))))
      (pss_cons (ps_if (PW.pt (pw_or (pt_cmpR op_eq (pv 5) pe_str (nomark _)) (pw_or1 (PW.pt (pw_and (pt_cmpR op_eq (pv 5) pe_str (nomark _)) (pw_and1 (pt_cmpR op_eq (pe_cal c_take (hr.mono (by omega)) (pa_cons (pv 0) (pa_cons pe_int pa_nil))) pe_int (nomark _)))))))) (pss_cons (ps_set (i := 8) sc_law_block.nd rfl (Or.inl rfl) (pe_ifExp (pt_cmpR op_eq (pv 5) pe_str (nomark _)) pe_str (pe_cal c_pick (hr.mono (by omega)) (pa_cons (pv 0) (pa_cons (pe_lst (pa_cons pe_str (pa_cons pe_str pa_nil))) pa_nil)))))
      (pss_one (ps_set (i := 7) sc_law_block.nd rfl (Or.inl rfl) (pe_op op_cat (pe_op op_cat (pv 7) (pe_lst (pa_cons (pv 8) pa_nil))) (pe_cal c_group (hr.mono (by omega)) (pa_cons (pv 0) (pa_cons (pv 1) (pa_cons (pe_op op_sub (pe_op op_sub (pv 2) pe_int) (pe_callB call_len_seq (by rfl) T.n_len (by decide +kernel) (pa_cons (pv 7) pa_nil))) (pa_cons (pe_op op_cat (pv 3) (pe_lst (pa_cons (pv 8) pa_nil))) pa_nil))))))))) pss_nil)
      (pss_one (ps_ret (pe_op op_cat (pv 7) (pe_lst (pa_cons pe_str pa_nil)))))))))), ?_⟩
    walk_at "rd"
    refine ⟨by show 4 ≤ sizeLine; decide, fun l1 hl1 => ?_⟩
    have S1 := same_new (o := .lst [V.str "maybe", V.str "try", V.str "try", V.str "shield"]) (fun a u (e : H a = some u) => e) hl1
    have f1 : (upd H l1 (.lst [V.str "maybe", V.str "try", V.str "try", V.str "shield"])) l1 = some (.lst ((["maybe", "try", "try", "shield"] : List Str).map V.str)) := upd_same
    generalize upd H l1 (.lst [V.str "maybe", V.str "try", V.str "try", V.str "shield"]) = G1 at S1 f1
    walk_at "rd"
    refine ⟨by show 2 ≤ sizeLine; decide, fun l2 hl2 => ?_⟩
    have T2 := same_new (o := .lst [V.str "each", V.str "each"]) (fun a u (e : G1 a = some u) => e) hl2
    have f1 := T2 _ _ f1
    have f2 : (upd G1 l2 (.lst [V.str "each", V.str "each"])) l2 = some (.lst ((["each", "each"] : List Str).map V.str)) := upd_same
    have S2 := same_trans S1 T2
    generalize upd G1 l2 (.lst [V.str "each", V.str "each"]) = G2 at S2 f1 f2
    have hp2 := S2 _ _ hp
    have hN2 := S2 _ _ hN
    clear T2 S1 hl2 hl1
    walk_at "rd"
    refine ⟨p, _, rfl, .inl (SqL.of hp2), rfl, flatS _, ?_⟩
    walk_at "rd"
    refine .inr ⟨_, rfl, ?_⟩
    obtain ⟨kk, hk1, hkk, hke⟩ : ∃ kk : Nat, kk ≤ 1 ∧ (if (if true = true then !inV (V.str "each") (List.map V.str ps) else inV (V.str "each") (List.map V.str ps)) = true then (1 : Int) else 0) = (kk : Nat) ∧ (kk = 1 → inS ps "each" = false) := by
      rw [if_pos rfl]
      by_cases z : inV (V.str "each") (List.map V.str ps) = true
      · rw [if_neg (by rw [z]; decide)]; exact ⟨0, Nat.zero_le _, rfl, fun h => by cases h⟩
      · rw [if_pos (by rw [not_tt z]; rfl)]; exact ⟨1, Nat.le_refl _, rfl, fun _ => not_tt z⟩
    rw [hkk]
    refine ⟨l2, _, _, rfl, rfl, f2, by omega, by omega, Nat.le_trans (m := 2) (by show 2 * (kk : Int).toNat ≤ 2; omega) (by decide), fun l3 hl3 => ?_⟩
    have eE : (List.replicate (kk : Int).toNat ((["each", "each"] : List Str).map V.str)).flatten = ((List.replicate kk (["each", "each"] : List Str)).flatten).map V.str := by
      rw [Int.toNat_natCast]
      rcases (show kk = 0 ∨ kk = 1 by omega) with h | h <;> subst h <;> rfl
    rw [eE]
    have T3 := same_new (o := .lst (((List.replicate kk (["each", "each"] : List Str)).flatten).map V.str)) (fun a u (e : G2 a = some u) => e) hl3
    have f1 := T3 _ _ f1
    have f3 : (upd G2 l3 (.lst (((List.replicate kk (["each", "each"] : List Str)).flatten).map V.str))) l3 = some (.lst (((List.replicate kk (["each", "each"] : List Str)).flatten).map V.str)) := upd_same
    have S3 := same_trans S2 T3
    generalize upd G2 l3 (.lst (((List.replicate kk (["each", "each"] : List Str)).flatten).map V.str)) = G3 at S3 f1 f3
    clear T3 S2 f2 hp2 hN2 hl3
    have E1 : ∀ y ∈ (List.replicate kk (["each", "each"] : List Str)).flatten, BWd ps y := fun y hy => by
      obtain ⟨l, h1, h2⟩ := List.mem_flatten.mp hy
      obtain ⟨h3, h4⟩ := List.mem_replicate.mp h1
      have : y = "each" := by rw [h4] at h2; simpa using h2
      exact ⟨.inl this, fun _ => hke (by omega), fun e => absurd e (by rw [this]; decide +kernel)⟩
    have L1 : (List.replicate kk (["each", "each"] : List Str)).flatten.length ≤ 2 := by
      rcases (show kk = 0 ∨ kk = 1 by omega) with h | h <;> subst h <;> decide
    generalize (List.replicate kk (["each", "each"] : List Str)).flatten = X1 at f3 E1 L1
    refine ⟨l1, l3, _, _, rfl, rfl, f1, f3, ?_, fun l4 hl4 => ?_⟩
    · rw [List.length_map, List.length_map]
      exact Nat.le_trans (m := 64) (by show 4 + X1.length ≤ 64; omega) (by decide)
    have T4 := same_new (o := .lst ((["maybe", "try", "try", "shield"] : List Str).map V.str ++ X1.map V.str)) (fun a u (e : G3 a = some u) => e) hl4
    have f4 : (upd G3 l4 (.lst ((["maybe", "try", "try", "shield"] : List Str).map V.str ++ X1.map V.str))) l4 = some (.lst (((["maybe", "try", "try", "shield"] : List Str) ++ X1).map V.str)) := by rw [upd_same, List.map_append]
    have S4 := same_trans S3 T4
    generalize upd G3 l4 (.lst ((["maybe", "try", "try", "shield"] : List Str).map V.str ++ X1.map V.str)) = G4 at S4 f4
    clear T4 S3 f1 f3 hl4
    have E4 : ∀ y ∈ (["maybe", "try", "try", "shield"] : List Str) ++ X1, BWd ps y := fun y hy => by
      rcases List.mem_append.mp hy with h | h
      · have : y ∈ (["maybe", "try", "shield"] : List Str) := by
          simp only [List.mem_cons, List.not_mem_nil, or_false] at h ⊢
          rcases h with h | h | h | h <;> simp [h]
        obtain ⟨_, _, _, _, n1, n2⟩ := same_sp y this
        exact ⟨.inr (.inr this), fun e => absurd e n1, fun e => absurd e n2⟩
      · exact E1 y h
    have L4 : ((["maybe", "try", "try", "shield"] : List Str) ++ X1).length ≤ 6 := by rw [List.length_append]; show 4 + X1.length ≤ 6; omega
    have L40 : 0 < ((["maybe", "try", "try", "shield"] : List Str) ++ X1).length := by rw [List.length_append]; show 0 < 4 + X1.length; omega
    generalize (["maybe", "try", "try", "shield"] : List Str) ++ X1 = X4 at f4 E4 L4 L40
    clear E1 L1 hkk hke eE hk1
    walk_at "rd"
    refine ⟨by show 1 ≤ sizeLine; decide, fun l5 hl5 => ?_⟩
    have T5 := same_new (o := .lst [V.str "retry"]) (fun a u (e : G4 a = some u) => e) hl5
    have f4 := T5 _ _ f4
    have f5 : (upd G4 l5 (.lst [V.str "retry"])) l5 = some (.lst ((["retry"] : List Str).map V.str)) := upd_same
    have S5 := same_trans S4 T5
    generalize upd G4 l5 (.lst [V.str "retry"]) = G5 at S5 f4 f5
    clear T5 S4 hl5
    have hp5 := S5 _ _ hp
    walk_at "rd"
    refine ⟨⟨_, SqL.of hp5⟩, fun D hD => lc_list (a := p) (xs := ps.map V.str) (fun i H' => H' D = some (.lst (((ps.take i).filter (· == ("retry" : Str))).map V.str)) ∧ Same G5 H') ⟨upd_same, same_new (fun _ _ e => e) hD⟩ (fun i H' _ h => SqL.of (h.2 _ _ hp5)) ?_ ?_⟩
    · rintro i v H' hi ⟨ha, S6⟩
      rw [List.getElem?_map] at hi
      obtain ⟨y, hy, rfl⟩ := Option.map_eq_some_iff.mp hi
      have et : ps.take (i + 1) = ps.take i ++ [y] := by rw [List.take_succ, hy]; rfl
      refine ⟨rfl, ?_⟩
      walk_at "rd"
      refine ite2 (fun h => ?_) (fun h => ?_)
      · walk_at "rd"
        refine ⟨_, ha, ?_, ?_, same_over S6 hD⟩
        · rw [List.length_map]
          have h1 := List.length_filter_le (· == ("retry" : Str)) (ps.take i)
          rw [List.length_take] at h1
          exact Nat.lt_of_lt_of_le (m := 65) (by omega) (by decide)
        · rw [upd_same, et, List.filter_append, List.map_append, eqS h]
          rfl
      · refine ⟨?_, S6⟩
        rw [ha, et, List.filter_append, List.map_append]
        have : (y == ("retry" : Str)) = false := beq_false_of_ne (neS h)
        simp [this]
    rintro H6 ⟨hm, S56⟩
    rw [List.length_map, List.take_length] at hm
    have f4 := S56 _ _ f4
    have f5 := S56 _ _ f5
    have S6 := same_trans S5 S56
    clear S56 S5 hp5 hD
    walk_at "rd"
    refine ⟨D, _, rfl, .inl (SqL.of hm), ?_⟩
    walk_at "rd"
    refine .inr ⟨_, rfl, ?_⟩
    rw [List.length_map]
    obtain ⟨jj, hj1, hjj, hje⟩ : ∃ jj : Nat, jj ≤ 1 ∧ (if decide (((ps.filter (· == ("retry" : Str))).length : Int) < 2) = true then (1 : Int) else 0) = (jj : Nat) ∧ (jj = 1 → ps.countP (· == ("retry" : Str)) < 2) := by
      rw [List.countP_eq_length_filter]
      by_cases z : (((ps.filter (· == ("retry" : Str))).length : Int) < 2)
      · rw [if_pos (decide_eq_true z)]; exact ⟨1, Nat.le_refl _, rfl, fun _ => by omega⟩
      · rw [if_neg (by rw [decide_eq_false z]; decide)]; exact ⟨0, Nat.zero_le _, rfl, fun h => by cases h⟩
    rw [hjj]
    refine ⟨l5, _, _, rfl, rfl, f5, by omega, by omega, Nat.le_trans (m := 1) (by show 1 * (jj : Int).toNat ≤ 1; omega) (by decide), fun l6 hl6 => ?_⟩
    have eE : (List.replicate (jj : Int).toNat ((["retry"] : List Str).map V.str)).flatten = ((List.replicate jj (["retry"] : List Str)).flatten).map V.str := by
      rw [Int.toNat_natCast]
      rcases (show jj = 0 ∨ jj = 1 by omega) with h | h <;> subst h <;> rfl
    rw [eE]
    have T7 := same_new (o := .lst (((List.replicate jj (["retry"] : List Str)).flatten).map V.str)) (fun a u (e : H6 a = some u) => e) hl6
    have f4 := T7 _ _ f4
    have f6 : (upd H6 l6 (.lst (((List.replicate jj (["retry"] : List Str)).flatten).map V.str))) l6 = some (.lst (((List.replicate jj (["retry"] : List Str)).flatten).map V.str)) := upd_same
    have S7 := same_trans S6 T7
    generalize upd H6 l6 (.lst (((List.replicate jj (["retry"] : List Str)).flatten).map V.str)) = G7 at S7 f4 f6
    clear T7 S6 f5 hm hl6
    have E6 : ∀ y ∈ (List.replicate jj (["retry"] : List Str)).flatten, BWd ps y := fun y hy => by
      obtain ⟨l, h1, h2⟩ := List.mem_flatten.mp hy
      obtain ⟨h3, h4⟩ := List.mem_replicate.mp h1
      have : y = "retry" := by rw [h4] at h2; simpa using h2
      exact ⟨.inr (.inl this), fun e => absurd e (by rw [this]; decide +kernel), fun _ => hje (by omega)⟩
    have L6 : (List.replicate jj (["retry"] : List Str)).flatten.length ≤ 1 := by
      rcases (show jj = 0 ∨ jj = 1 by omega) with h | h <;> subst h <;> decide
    generalize (List.replicate jj (["retry"] : List Str)).flatten = X6 at f6 E6 L6
    refine ⟨l4, l6, _, _, rfl, rfl, f4, f6, ?_, fun l8 hl8 => ?_⟩
    · rw [List.length_map, List.length_map]
      exact Nat.le_trans (m := 64) (by omega) (by decide)
    have T8 := same_new (o := .lst (X4.map V.str ++ X6.map V.str)) (fun a u (e : G7 a = some u) => e) hl8
    have f8 : (upd G7 l8 (.lst (X4.map V.str ++ X6.map V.str))) l8 = some (.lst ((X4 ++ X6).map V.str)) := by rw [upd_same, List.map_append]
    have S8 := same_trans S7 T8
    have nl8 : H l8 = none := none_back S7 hl8
    generalize upd G7 l8 (.lst (X4.map V.str ++ X6.map V.str)) = G8 at S8 f8
    clear T8 S7 f4 f6 hl8 hjj hje eE hj1
    have E8 : ∀ y ∈ X4 ++ X6, BWd ps y := fun y hy => (List.mem_append.mp hy).elim (E4 y) (E6 y)
    have L8 : (X4 ++ X6).length ≤ 7 := by rw [List.length_append]; omega
    have L80 : 0 < (X4 ++ X6).length := by rw [List.length_append]; omega
    generalize X4 ++ X6 = X8 at f8 E8 L8 L80
    clear E4 E6 L4 L6 L40
    refine ⟨b, l8, n, _, rfl, hB.same S8, by omega, f8, nb_of hB nl8, by rw [List.length_map]; omega, by rw [List.length_map]; omega, fun i v H9 hi B9 S89 => ?_⟩
    rw [List.getElem?_map] at hi
    obtain ⟨word, hy, rfl⟩ := Option.map_eq_some_iff.mp hi
    have hW := E8 word (List.mem_of_getElem? hy)
    have S9 := (Stay.of (b := b) S8).trans S89
    clear hy hi E8 L8 L80 f8 S8 S89 nl8
    walk_at "rd"
    refine fun e he => ?_
    have hN9 := S9 _ _ Nb hN
    have hp9 := S9 _ _ pb hp
    have Ne : N ≠ e := ne_of_none hN9 he
    have eb : e ≠ b := nb_of B9 he
    have e1 : (upd H9 e (.dK [])) e = some (.dK []) := upd_same
    have BA : BagAt (upd H9 e (.dK [])) b (n + 1) := B9.same (same_new (fun _ _ e => e) he)
    have hNA : (upd H9 e (.dK [])) N = some (.lst (ns.map V.str)) := (upd_ne Ne).trans hN9
    have SA : Stay b H (upd H9 e (.dK [])) := S9.trans (Stay.of (same_new (fun _ _ e => e) he))
    have eH : H e = none := by
      cases q : H e with
      | none => rfl
      | some o => rw [S9 _ _ eb q] at he; cases he
    generalize upd H9 e (.dK []) = HA at e1 BA hNA SA
    have n3 : 0 < ns.length := List.length_pos_iff.mpr ns0
    walk_at "rd"
    refine ⟨b, N, _, _, rfl, BA, by omega, hNA, Nb, by rw [List.length_map]; omega, by rw [List.length_map]; omega, fun i v HB hi BB SB => ?_⟩
    rw [List.getElem?_map] at hi
    obtain ⟨x, hx, rfl⟩ := Option.map_eq_some_iff.mp hi
    have hx := List.mem_of_getElem? hx
    have hxl := nsl x hx
    have e1 := SB _ _ eb e1
    have SB := SA.trans SB
    clear hi BA SA hNA
    obtain ⟨_, x1, x3⟩ := lc_cps hxl
    walk_at "rd"
    have lsp : (" " : Str).length = 1 := by decide +kernel
    refine ⟨by rw [lsp]; exact Nat.le_trans (m := 64) (by omega) (by decide), ?_⟩
    walk_at "rd"
    refine ⟨b, _, 3, rfl, BB, by omega, by decide, by decide, fun r HC r0 r1 BC SC => ?_⟩
    have e1 := SC _ _ eb e1
    have SC := SB.trans SC
    obtain ⟨rr, rfl⟩ := Int.eq_ofNat_of_zero_le r0
    have hrr : rr < 3 := by omega
    walk_at "rd"
    refine ⟨int_log ⟨by omega, by omega⟩, ?_⟩
    walk_at "rd"
    have l2 : (Str.ofString (toString (1 + ((rr : Nat) : Int)))).length ≤ 60 := int_len ⟨by omega, by omega⟩
    refine ⟨by rw [lsp]; exact Nat.le_trans (m := 64) (by omega) (by decide), ?_⟩
    obtain ⟨w2, hw2⟩ : ∃ w2 : Str, w2 = (" " : Str) ++ Str.ofString (toString (1 + ((rr : Nat) : Int))) := ⟨_, rfl⟩
    obtain ⟨w1, hw1⟩ : ∃ w1 : Str, w1 = (" " : Str) ++ x := ⟨_, rfl⟩
    have hval : ∃ z : Str, (valV [((Sum.inr "each" : Key), V.str w1), (Sum.inr "retry", V.str w2)] (Sum.inr word)).getD (.str "") = .str z ∧ word.length ≤ 16 ∧ z.length ≤ 64 ∧ Opn ns ps word (word ++ z) := by
      rcases hW.nam with e | e | e
      · subst e
        refine ⟨w1, by rw [valV_pos rfl]; rfl, by decide +kernel, by rw [hw1, PySem.Str.length_append, lsp]; omega, ?_⟩
        rw [hw1, each_sp]
        exact opn_of (by omega) (.inr ⟨x, hx, hxl, rfl⟩) (each_row hxl).2.2.1 (by decide +kernel) hW.ea hW.re
      · subst e
        refine ⟨w2, by rw [valV_neg ner, valV_pos rfl]; rfl, by decide +kernel, by rw [hw2, PySem.Str.length_append, lsp]; omega, ?_⟩
        obtain ⟨g1, g2⟩ := retry_sp ⟨rr, hrr⟩
        rw [hw2]
        exact opn_of (by omega) (.inl g1) g2 (by decide +kernel) hW.ea hW.re
      · obtain ⟨g1, g2, g3, g4, g5, g6⟩ := same_sp word e
        refine ⟨"", ?_, ?_, by decide +kernel, ?_⟩
        · rw [valV_neg (fun e => g5 (Sum.inr.inj e).symm), valV_neg (fun e => g6 (Sum.inr.inj e).symm)]
          rfl
        · exact (by decide +kernel : ∀ z ∈ (["maybe", "try", "shield"] : List Str), z.length ≤ 16) word e
        · rw [g1]
          exact opn_of (by omega) (.inl g4) g2 g3 hW.ea hW.re
    obtain ⟨z, hz, lw, lz, hO⟩ := hval
    refine ⟨e1, [((Sum.inr "each" : Key), V.str w1), (Sum.inr "retry", V.str w2)], by rw [hw1, hw2]; rfl, by show 2 ≤ 15; decide, ?_⟩
    have em : mergeK [] [((Sum.inr "each" : Key), V.str w1), (Sum.inr "retry", V.str w2)] = [((Sum.inr "each" : Key), V.str w1), (Sum.inr "retry", V.str w2)] := by
      show putK (putK ([] : List (Key × V)) (Sum.inr "each") (.str w1)) (Sum.inr "retry") (.str w2) = _
      unfold putK
      have nq : ¬ ("each" : Str) = "retry" := by decide +kernel
      simp [nq]
    rw [em]
    have fe : (upd HC e (.dK [((Sum.inr "each" : Key), V.str w1), (Sum.inr "retry", V.str w2)])) e = some (.dK [((Sum.inr "each" : Key), V.str w1), (Sum.inr "retry", V.str w2)]) := upd_same
    have BD : BagAt (upd HC e (.dK [((Sum.inr "each" : Key), V.str w1), (Sum.inr "retry", V.str w2)])) b (n + 1 + 1 + 1) := by
      obtain ⟨d, m, kk, q1, q2⟩ := BC
      exact ⟨d, m, kk, (upd_ne eb.symm).trans q1, q2⟩
    have SD : Stay b H (upd HC e (.dK [((Sum.inr "each" : Key), V.str w1), (Sum.inr "retry", V.str w2)])) := stay_over SC eH
    generalize upd HC e (.dK [((Sum.inr "each" : Key), V.str w1), (Sum.inr "retry", V.str w2)]) = HD at fe BD SD
    clear e1 BC SC hw1 hw2 em
    refine ⟨e, rfl, .inl ⟨_, .inl fe⟩, .str word, rfl, ?_⟩
    refine ⟨_, DGet.k (k := Sum.inr word) fe, ?_⟩
    rw [hz]
    clear hz fe
    refine ⟨word, z, rfl, rfl, Nat.le_trans (m := 128) (by omega) (by decide), ?_⟩
    generalize word ++ z = first at hO
    clear lz l2
    walk_at "rd"
    refine ⟨by show 1 ≤ sizeLine; decide, fun l9 hl9 => ?_⟩
    have T9 := same_new (o := .lst [V.str first]) (fun a u (e : HD a = some u) => e) hl9
    have g9 : (upd HD l9 (.lst [V.str first])) l9 = some (.lst ([first].map V.str)) := upd_same
    have SE := SD.trans (Stay.of T9)
    have BE := BD.same T9
    have l9b : l9 ≠ b := nb_of BD hl9
    generalize upd HD l9 (.lst [V.str first]) = HE at g9 SE BE
    clear T9 hl9 SD BD
    walk_at "rd"
    refine ⟨by show 1 ≤ sizeLine; decide, fun l10 hl10 => ?_⟩
    have T10 := same_new (o := .lst [V.str word]) (fun a u (e : HE a = some u) => e) hl10
    refine ⟨p, l10, _, _, rfl, rfl, T10 _ _ (SE _ _ pb hp), (show (upd HE l10 (.lst [V.str word])) l10 = some (.lst ([word].map V.str)) from upd_same), ?_, fun l11 hl11 => ?_⟩
    · rw [List.length_map, List.length_map]
      exact Nat.le_trans (m := 64) (by show _ + 1 ≤ 64; omega) (by decide)
    have T11 := same_new (o := .lst (ps.map V.str ++ [word].map V.str)) T10 hl11
    have g11 : (upd (upd HE l10 (.lst [V.str word])) l11 (.lst (ps.map V.str ++ [word].map V.str))) l11 = some (.lst ((ps ++ [word]).map V.str)) := by rw [upd_same, List.map_append]
    have g9 := T11 _ _ g9
    have SF := SE.trans (Stay.of T11)
    have BF := BE.same T11
    have l11b : l11 ≠ b := nb_of (BE.same T10) hl11
    generalize (upd (upd HE l10 (.lst [V.str word])) l11 (.lst (ps.map V.str ++ [word].map V.str))) = HF0 at g9 g11 SF BF
    clear T10 T11 hl10 hl11 SE BE
    refine ⟨b, N, l11, _, left - 3, ns, ps ++ [word], ?_, BF, by omega, by rw [List.length_append]; show ps.length + 1 + d = 5; omega, SF _ _ Nb hN, Nb, ns0, ns3, nsl, g11, l11b, by omega, fun q1 rows1 m1 HG hk1 hd1 hlen1 hm1 hq10 hq1 BG SG => ?_⟩
    · show [V.ref b, V.ref N, V.int ((left : Int) - 3), V.ref l11] = _
      rw [show ((left : Int) - 3) = ((left - 3 : Nat) : Int) by omega]
    have g9 := SG _ _ l9b g9
    have SG := SF.trans SG
    refine ⟨l9, q1, _, _, rfl, rfl, g9, hq1, ?_, fun l12 hl12 => ?_⟩
    · rw [List.length_map, List.length_map]
      exact Nat.le_trans (m := 64) (by show 1 + _ ≤ 64; omega) (by decide)
    have T12 := same_new (o := .lst ([first].map V.str ++ rows1.map V.str)) (fun a u (e : HG a = some u) => e) hl12
    have fI : (upd HG l12 (.lst ([first].map V.str ++ rows1.map V.str))) l12 = some (.lst ((first :: rows1).map V.str)) := upd_same
    have SI := SG.trans (Stay.of T12)
    have BI := BG.same T12
    have l12b : l12 ≠ b := nb_of BG hl12
    generalize upd HG l12 (.lst ([first].map V.str ++ rows1.map V.str)) = HI at fI SI BI
    clear T12 hl12 SG BG g9 hq1 g11 SF BF S9 B9
    walk_at "rd"
    refine ite2 (fun c1 => ?_) (fun c1 => ?_)
    · have c1 := eqS c1
      have nmb : ¬ word = "maybe" := by rw [c1]; decide +kernel
      walk_at "rd"
      refine ite2 (fun c2 => absurd (eqS c2) nmb) (fun _ => ?_)
      walk_at "rd"
      refine ⟨by show 2 ≤ sizeLine; decide, fun y1 hy1 => ?_⟩
      have Ty := same_new (o := .lst [V.str "finally", V.str "rescue"]) (fun a u (e : HI a = some u) => e) hy1
      refine ⟨b, y1, _, _, rfl, BI.same Ty, by omega, (show (upd HI y1 (.lst [V.str "finally", V.str "rescue"])) y1 = some (.lst [V.str "finally", V.str "rescue"]) from upd_same), nb_of BI hy1, by show 0 < 2; decide, by show 2 ≤ 64; decide, fun i v HM hi BM SM0 => ?_⟩
      have fM := SM0 _ _ l12b (Ty _ _ fI)
      have SM := SI.trans ((Stay.of Ty).trans SM0)
      obtain ⟨mw, rfl, hmw⟩ : ∃ mw : Str, v = .str mw ∧ ((word = "maybe" ∧ mw = "else") ∨ (word = "try" ∧ (mw = "finally" ∨ mw = "rescue"))) := by
        match i, hi with
        | 0, hi => cases hi; exact ⟨_, rfl, .inr ⟨c1, .inl rfl⟩⟩
        | 1, hi => cases hi; exact ⟨_, rfl, .inr ⟨c1, .inr rfl⟩⟩
        | i + 2, hi => cases hi
      clear hi SM0 Ty hy1
      walk_at "rd"
      refine ⟨by show 1 ≤ sizeLine; decide, fun z1 hz1 => ?_⟩
      have Tz := same_new (o := .lst [V.str mw]) (fun a u (e : HM a = some u) => e) hz1
      refine ⟨l12, z1, _, _, rfl, rfl, Tz _ _ fM, (show (upd HM z1 (.lst [V.str mw])) z1 = some (.lst ([mw].map V.str)) from upd_same), ?_, fun z2 hz2 => ?_⟩
      · rw [List.length_map, List.length_map, List.length_cons]
        exact Nat.le_trans (m := 64) (by show _ + 1 ≤ 64; omega) (by decide)
      have Tz2 := same_new (o := .lst ((first :: rows1).map V.str ++ [mw].map V.str)) Tz hz2
      have g2 : (upd (upd HM z1 (.lst [V.str mw])) z2 (.lst ((first :: rows1).map V.str ++ [mw].map V.str))) z2 = some (.lst ((first :: (rows1 ++ [mw])).map V.str)) := by rw [upd_same, ← List.map_append]; rfl
      have SM2 := SM.trans (Stay.of Tz2)
      have BM2 := BM.same Tz2
      have z2b : z2 ≠ b := nb_of (BM.same Tz) hz2
      have fM2 := Tz2 _ _ fM
      have hz2H := none_stay SM hB.lstx (none_back Tz hz2) BM.lstx
      generalize (upd (upd HM z1 (.lst [V.str mw])) z2 (.lst ((first :: rows1).map V.str ++ [mw].map V.str))) = HN at g2 SM2 BM2 fM2
      clear Tz Tz2 hz1 hz2
      walk_at "rd"
      refine ⟨l12, _, rfl, .inl (SqL.of fM2), ?_⟩
      rw [List.length_map, List.length_cons]
      walk_at "rd"
      refine ⟨by show 1 ≤ sizeLine; decide, fun z3 hz3 => ?_⟩
      have T3 := same_new (o := .lst [V.str mw]) (fun a u (e : HN a = some u) => e) hz3
      refine ⟨p, z3, _, _, rfl, rfl, T3 _ _ (SM2 _ _ pb hp), (show (upd HN z3 (.lst [V.str mw])) z3 = some (.lst ([mw].map V.str)) from upd_same), ?_, fun z4 hz4 => ?_⟩
      · rw [List.length_map, List.length_map]
        exact Nat.le_trans (m := 64) (by show _ + 1 ≤ 64; omega) (by decide)
      have T4 := same_new (o := .lst (ps.map V.str ++ [mw].map V.str)) T3 hz4
      have g4 : (upd (upd HN z3 (.lst [V.str mw])) z4 (.lst (ps.map V.str ++ [mw].map V.str))) z4 = some (.lst ((ps ++ [mw]).map V.str)) := by rw [upd_same, List.map_append]
      have g2 := T4 _ _ g2
      have SM4 := SM2.trans (Stay.of T4)
      have BM4 := BM2.same T4
      have z4b : z4 ≠ b := nb_of (BM2.same T3) hz4
      generalize (upd (upd HN z3 (.lst [V.str mw])) z4 (.lst (ps.map V.str ++ [mw].map V.str))) = HO4 at g2 g4 SM4 BM4
      clear T3 T4 hz3 hz4 SM2 BM2
      refine ⟨b, N, z4, _, left - 2 - (rows1.length + 1), ns, ps ++ [mw], ?_, BM4, by omega, by rw [List.length_append]; show ps.length + 1 + d = 5; omega, SM4 _ _ Nb hN, Nb, ns0, ns3, nsl, g4, z4b, by omega, fun q2 rows2 m2 H6 hk2 hd2 hlen2 hm2 hq20 hq2 B6 S6 => ?_⟩
      · show [V.ref b, V.ref N, V.int ((left : Int) - 2 - ((rows1.length + 1 : Nat) : Int)), V.ref z4] = _
        rw [show ((left : Int) - 2 - ((rows1.length + 1 : Nat) : Int)) = ((left - 2 - (rows1.length + 1) : Nat) : Int) by omega]
      have g2 := S6 _ _ z2b g2
      have S6 := SM4.trans S6
      refine ⟨z2, q2, _, _, rfl, rfl, g2, hq2, ?_, fun z5 hz5 => ?_⟩
      · rw [List.length_map, List.length_map, List.length_cons, List.length_append]
        exact Nat.le_trans (m := 64) (by show _ + 1 + 1 + _ ≤ 64; omega) (by decide)
      have T5 := same_new (o := .lst ((first :: (rows1 ++ [mw])).map V.str ++ rows2.map V.str)) (fun a u (e : H6 a = some u) => e) hz5
      have g5 : (upd H6 z5 (.lst ((first :: (rows1 ++ [mw])).map V.str ++ rows2.map V.str))) z5 = some (.lst ((first :: (rows1 ++ [mw]) ++ rows2).map V.str)) := by rw [upd_same, List.map_append]
      have S7 := S6.trans (Stay.of T5)
      have B7 := B6.same T5
      have nz5 := none_stay S6 hB.lstx hz5 B6.lstx
      generalize (upd H6 z5 (.lst ((first :: (rows1 ++ [mw])).map V.str ++ rows2.map V.str))) = H7 at g5 S7 B7
      clear T5 S6 B6 g2 hq2
      walk_at "rd"
      refine ⟨by show 1 ≤ sizeLine; decide, fun z6 hz6 => ?_⟩
      have Tz := same_new (o := .lst [V.str "end"]) (fun a u (e : H7 a = some u) => e) hz6
      refine ⟨z5, z6, _, _, rfl, rfl, Tz _ _ g5, (show (upd H7 z6 (.lst [V.str "end"])) z6 = some (.lst ((["end"] : List Str).map V.str)) from upd_same), ?_, fun z7 hz7 => ?_⟩
      · rw [List.length_map, List.length_map, List.length_append, List.length_cons, List.length_append]
        exact Nat.le_trans (m := 64) (by show _ + 1 + 1 + _ + 1 ≤ 64; omega) (by decide)
      have Tz2 := same_new (o := .lst ((first :: (rows1 ++ [mw]) ++ rows2).map V.str ++ (["end"] : List Str).map V.str)) Tz hz7
      have el : first :: (rows1 ++ [mw]) ++ rows2 ++ [("end" : Str)] = first :: (rows1 ++ mw :: (rows2 ++ [("end" : Str)])) := by simp
      refine k z7 (first :: (rows1 ++ mw :: (rows2 ++ [("end" : Str)]))) _ _ (block2_keeps hO hk1 hmw hk2) (fun r hr => ?_) ?_ (show m2 ≤ _ by omega) (none_stay S7 hB.lstx (none_back Tz hz7) B7.lstx) ?_ (B7.same Tz2) (S7.trans (Stay.of Tz2))
      · rcases List.mem_cons.mp hr with hr | hr
        · rw [hr]; exact hO.drow
        · rcases List.mem_append.mp hr with hr | hr
          · exact hd1 r hr
          · rcases List.mem_cons.mp hr with hr | hr
            · rw [hr]
              rcases hmw with ⟨_, e⟩ | ⟨_, e | e⟩ <;> rw [e]
              · exact drow_more.2.1
              · exact drow_more.2.2.1
              · exact drow_more.2.2.2
            · rcases List.mem_append.mp hr with hr | hr
              · exact hd2 r hr
              · rw [List.mem_singleton.mp hr]; exact drow_more.1
      · rw [List.length_cons, List.length_append, List.length_cons, List.length_append]
        show rows1.length + (rows2.length + 1 + 1) + 1 ≤ left
        omega
      · rw [upd_same, ← List.map_append, el]
    · have c1 := neS c1
      walk_at "rd"
      refine ite2 (fun c2 => ?_) (fun c2 => ?_)
      · have c2' := eqS c2
        walk_at "rd"
        refine ⟨b, _, 2, rfl, BI, by omega, by decide, by decide, fun r3 HM r30 r31 BM SM0 => ?_⟩
        have fM := SM0 _ _ l12b fI
        have SM := SI.trans SM0
        clear SM0
        walk_at "rd"
        refine ite2 (fun c3 => ?_) (fun c3 => ?_)
        · walk_at "rd"
          refine ite2 (fun _ => ?_) (fun h => absurd c2 h)
          obtain ⟨mw, hmwe⟩ : ∃ mw : Str, mw = "else" := ⟨_, rfl⟩
          have hmw : (word = "maybe" ∧ mw = "else") ∨ (word = "try" ∧ (mw = "finally" ∨ mw = "rescue")) := .inl ⟨c2', hmwe⟩
          rw [← hmwe]
          clear hmwe
          walk_at "rd"
          refine ⟨by show 1 ≤ sizeLine; decide, fun z1 hz1 => ?_⟩
          have Tz := same_new (o := .lst [V.str mw]) (fun a u (e : HM a = some u) => e) hz1
          refine ⟨l12, z1, _, _, rfl, rfl, Tz _ _ fM, (show (upd HM z1 (.lst [V.str mw])) z1 = some (.lst ([mw].map V.str)) from upd_same), ?_, fun z2 hz2 => ?_⟩
          · rw [List.length_map, List.length_map, List.length_cons]
            exact Nat.le_trans (m := 64) (by show _ + 1 ≤ 64; omega) (by decide)
          have Tz2 := same_new (o := .lst ((first :: rows1).map V.str ++ [mw].map V.str)) Tz hz2
          have g2 : (upd (upd HM z1 (.lst [V.str mw])) z2 (.lst ((first :: rows1).map V.str ++ [mw].map V.str))) z2 = some (.lst ((first :: (rows1 ++ [mw])).map V.str)) := by rw [upd_same, ← List.map_append]; rfl
          have SM2 := SM.trans (Stay.of Tz2)
          have BM2 := BM.same Tz2
          have z2b : z2 ≠ b := nb_of (BM.same Tz) hz2
          have fM2 := Tz2 _ _ fM
          have hz2H := none_stay SM hB.lstx (none_back Tz hz2) BM.lstx
          generalize (upd (upd HM z1 (.lst [V.str mw])) z2 (.lst ((first :: rows1).map V.str ++ [mw].map V.str))) = HN at g2 SM2 BM2 fM2
          clear Tz Tz2 hz1 hz2
          walk_at "rd"
          refine ⟨l12, _, rfl, .inl (SqL.of fM2), ?_⟩
          rw [List.length_map, List.length_cons]
          walk_at "rd"
          refine ⟨by show 1 ≤ sizeLine; decide, fun z3 hz3 => ?_⟩
          have T3 := same_new (o := .lst [V.str mw]) (fun a u (e : HN a = some u) => e) hz3
          refine ⟨p, z3, _, _, rfl, rfl, T3 _ _ (SM2 _ _ pb hp), (show (upd HN z3 (.lst [V.str mw])) z3 = some (.lst ([mw].map V.str)) from upd_same), ?_, fun z4 hz4 => ?_⟩
          · rw [List.length_map, List.length_map]
            exact Nat.le_trans (m := 64) (by show _ + 1 ≤ 64; omega) (by decide)
          have T4 := same_new (o := .lst (ps.map V.str ++ [mw].map V.str)) T3 hz4
          have g4 : (upd (upd HN z3 (.lst [V.str mw])) z4 (.lst (ps.map V.str ++ [mw].map V.str))) z4 = some (.lst ((ps ++ [mw]).map V.str)) := by rw [upd_same, List.map_append]
          have g2 := T4 _ _ g2
          have SM4 := SM2.trans (Stay.of T4)
          have BM4 := BM2.same T4
          have z4b : z4 ≠ b := nb_of (BM2.same T3) hz4
          generalize (upd (upd HN z3 (.lst [V.str mw])) z4 (.lst (ps.map V.str ++ [mw].map V.str))) = HO4 at g2 g4 SM4 BM4
          clear T3 T4 hz3 hz4 SM2 BM2
          refine ⟨b, N, z4, _, left - 2 - (rows1.length + 1), ns, ps ++ [mw], ?_, BM4, by omega, by rw [List.length_append]; show ps.length + 1 + d = 5; omega, SM4 _ _ Nb hN, Nb, ns0, ns3, nsl, g4, z4b, by omega, fun q2 rows2 m2 H6 hk2 hd2 hlen2 hm2 hq20 hq2 B6 S6 => ?_⟩
          · show [V.ref b, V.ref N, V.int ((left : Int) - 2 - ((rows1.length + 1 : Nat) : Int)), V.ref z4] = _
            rw [show ((left : Int) - 2 - ((rows1.length + 1 : Nat) : Int)) = ((left - 2 - (rows1.length + 1) : Nat) : Int) by omega]
          have g2 := S6 _ _ z2b g2
          have S6 := SM4.trans S6
          refine ⟨z2, q2, _, _, rfl, rfl, g2, hq2, ?_, fun z5 hz5 => ?_⟩
          · rw [List.length_map, List.length_map, List.length_cons, List.length_append]
            exact Nat.le_trans (m := 64) (by show _ + 1 + 1 + _ ≤ 64; omega) (by decide)
          have T5 := same_new (o := .lst ((first :: (rows1 ++ [mw])).map V.str ++ rows2.map V.str)) (fun a u (e : H6 a = some u) => e) hz5
          have g5 : (upd H6 z5 (.lst ((first :: (rows1 ++ [mw])).map V.str ++ rows2.map V.str))) z5 = some (.lst ((first :: (rows1 ++ [mw]) ++ rows2).map V.str)) := by rw [upd_same, List.map_append]
          have S7 := S6.trans (Stay.of T5)
          have B7 := B6.same T5
          have nz5 := none_stay S6 hB.lstx hz5 B6.lstx
          generalize (upd H6 z5 (.lst ((first :: (rows1 ++ [mw])).map V.str ++ rows2.map V.str))) = H7 at g5 S7 B7
          clear T5 S6 B6 g2 hq2
          walk_at "rd"
          refine ⟨by show 1 ≤ sizeLine; decide, fun z6 hz6 => ?_⟩
          have Tz := same_new (o := .lst [V.str "end"]) (fun a u (e : H7 a = some u) => e) hz6
          refine ⟨z5, z6, _, _, rfl, rfl, Tz _ _ g5, (show (upd H7 z6 (.lst [V.str "end"])) z6 = some (.lst ((["end"] : List Str).map V.str)) from upd_same), ?_, fun z7 hz7 => ?_⟩
          · rw [List.length_map, List.length_map, List.length_append, List.length_cons, List.length_append]
            exact Nat.le_trans (m := 64) (by show _ + 1 + 1 + _ + 1 ≤ 64; omega) (by decide)
          have Tz2 := same_new (o := .lst ((first :: (rows1 ++ [mw]) ++ rows2).map V.str ++ (["end"] : List Str).map V.str)) Tz hz7
          have el : first :: (rows1 ++ [mw]) ++ rows2 ++ [("end" : Str)] = first :: (rows1 ++ mw :: (rows2 ++ [("end" : Str)])) := by simp
          refine k z7 (first :: (rows1 ++ mw :: (rows2 ++ [("end" : Str)]))) _ _ (block2_keeps hO hk1 hmw hk2) (fun r hr => ?_) ?_ (show m2 ≤ _ by omega) (none_stay S7 hB.lstx (none_back Tz hz7) B7.lstx) ?_ (B7.same Tz2) (S7.trans (Stay.of Tz2))
          · rcases List.mem_cons.mp hr with hr | hr
            · rw [hr]; exact hO.drow
            · rcases List.mem_append.mp hr with hr | hr
              · exact hd1 r hr
              · rcases List.mem_cons.mp hr with hr | hr
                · rw [hr]
                  rcases hmw with ⟨_, e⟩ | ⟨_, e | e⟩ <;> rw [e]
                  · exact drow_more.2.1
                  · exact drow_more.2.2.1
                  · exact drow_more.2.2.2
                · rcases List.mem_append.mp hr with hr | hr
                  · exact hd2 r hr
                  · rw [List.mem_singleton.mp hr]; exact drow_more.1
          · rw [List.length_cons, List.length_append, List.length_cons, List.length_append]
            show rows1.length + (rows2.length + 1 + 1) + 1 ≤ left
            omega
          · rw [upd_same, ← List.map_append, el]
        · have HFe : ∃ HF, HF = HM := ⟨_, rfl⟩
          obtain ⟨HF, rfl⟩ := HFe
          obtain ⟨mF, hmF⟩ : ∃ mF, mF = m1 + 1 := ⟨_, rfl⟩
          rw [← hmF] at BM
          have fF := fM
          have SF := SM
          have BF := BM
          walk_at "rd"
          refine ⟨by show 1 ≤ sizeLine; decide, fun z1 hz1 => ?_⟩
          have Tz := same_new (o := .lst [V.str "end"]) (fun a u (e : HF a = some u) => e) hz1
          refine ⟨l12, z1, _, _, rfl, rfl, Tz _ _ fF, (show (upd HF z1 (.lst [V.str "end"])) z1 = some (.lst ((["end"] : List Str).map V.str)) from upd_same), ?_, fun z2 hz2 => ?_⟩
          · rw [List.length_map, List.length_map, List.length_cons]
            exact Nat.le_trans (m := 64) (by show _ + 1 ≤ 64; omega) (by decide)
          have Tz2 := same_new (o := .lst ((first :: rows1).map V.str ++ (["end"] : List Str).map V.str)) Tz hz2
          refine k z2 (first :: (rows1 ++ [("end" : Str)])) _ _ (block_keeps hO hk1 c1) (fun r hr => ?_) ?_ (show mF ≤ _ by omega) (none_stay SF hB.lstx (none_back Tz hz2) BF.lstx) ?_ (BF.same Tz2) (SF.trans (Stay.of Tz2))
          · rcases List.mem_cons.mp hr with hr | hr
            · rw [hr]; exact hO.drow
            · rcases List.mem_append.mp hr with hr | hr
              · exact hd1 r hr
              · rw [List.mem_singleton.mp hr]; exact drow_more.1
          · rw [List.length_cons, List.length_append]
            show rows1.length + 1 + 1 ≤ left
            omega
          · rw [upd_same, ← List.map_append]
            rfl
      · obtain ⟨HF, rfl⟩ : ∃ HF, HF = HI := ⟨_, rfl⟩
        obtain ⟨mF, rfl⟩ : ∃ mF, mF = m1 := ⟨_, rfl⟩
        have fF := fI
        have SF := SI
        have BF := BI
        walk_at "rd"
        refine ⟨by show 1 ≤ sizeLine; decide, fun z1 hz1 => ?_⟩
        have Tz := same_new (o := .lst [V.str "end"]) (fun a u (e : HF a = some u) => e) hz1
        refine ⟨l12, z1, _, _, rfl, rfl, Tz _ _ fF, (show (upd HF z1 (.lst [V.str "end"])) z1 = some (.lst ((["end"] : List Str).map V.str)) from upd_same), ?_, fun z2 hz2 => ?_⟩
        · rw [List.length_map, List.length_map, List.length_cons]
          exact Nat.le_trans (m := 64) (by show _ + 1 ≤ 64; omega) (by decide)
        have Tz2 := same_new (o := .lst ((first :: rows1).map V.str ++ (["end"] : List Str).map V.str)) Tz hz2
        refine k z2 (first :: (rows1 ++ [("end" : Str)])) _ _ (block_keeps hO hk1 c1) (fun r hr => ?_) ?_ (show mF ≤ _ by omega) (none_stay SF hB.lstx (none_back Tz hz2) BF.lstx) ?_ (BF.same Tz2) (SF.trans (Stay.of Tz2))
        · rcases List.mem_cons.mp hr with hr | hr
          · rw [hr]; exact hO.drow
          · rcases List.mem_append.mp hr with hr | hr
            · exact hd1 r hr
            · rw [List.mem_singleton.mp hr]; exact drow_more.1
        · rw [List.length_cons, List.length_append]
          show rows1.length + 1 + 1 ≤ left
          omega
        · rw [upd_same, ← List.map_append]
          rfl
end
end Ow

set_option Elab.async false
set_option linter.all false
set_option maxRecDepth 100000
set_option maxHeartbeats 4000000
namespace Ow
open PySem PySem.Spec PyProof.Rows L2 Fn ErX
local macro_rules | `(tactic| walk_at "rd") => `(tactic| repeat (first | (refine ⟨_, rfl, ?_⟩) | (refine ⟨_, _, rfl, rfl, ?_⟩) | (refine ⟨rfl, ?_⟩) | (refine ⟨_, _, rfl, ?_⟩) | (refine Or.inl ⟨_, rfl, ?_⟩) | (refine ⟨(by first | (show (0 : Int) < (_ : Int); decide) | exact Or.inl ⟨by decide, by decide⟩ | exact Or.inr ⟨by decide, by decide⟩ | exact ⟨by decide, by decide⟩ | exact ⟨by decide, by decide, by decide⟩), ?_⟩)))
local macro_rules | `(tactic| walk_at "at") => `(tactic| first | assumption | exact upd_same | exact at_new (by assumption) | (refine at_same (by assumption) ?_; walk_at "at") | (refine at_old (by assumption) ?_ ?_; (focus walk_at "ne"); walk_at "at") | (refine at_upd ?_ ?_; (focus walk_at "ne"); walk_at "at") | (refine at_stay (by assumption) ?_ ?_; (focus walk_at "ne"); walk_at "at"))
local macro_rules | `(tactic| walk_at "ex") => `(tactic| first | exact ⟨_, by assumption⟩ | exact ⟨_, upd_same⟩ | exact ⟨_, at_new (by assumption)⟩ | (refine ex_same (by assumption) ?_; walk_at "ex") | (refine ex_old (by assumption) ?_; walk_at "ex") | (refine ex_upd ?_; walk_at "ex") | (refine ex_stay (by assumption) ?_ ?_; (focus walk_at "ne"); walk_at "ex"))
local macro_rules | `(tactic| walk_at "ne") => `(tactic| first | assumption | (refine Ne.symm ?_; assumption) | (refine ne_fx (by assumption) ?_; walk_at "ex") | (refine Ne.symm (ne_fx (by assumption) ?_); walk_at "ex") | (refine ne_kx (by assumption) ?_; (apply Exists.intro; refine And.intro ?_ ?_; (focus walk_at "at"); (intro z; cases z))) | (refine Ne.symm (ne_kx (by assumption) ?_); (apply Exists.intro; refine And.intro ?_ ?_; (focus walk_at "at"); (intro z; cases z))))
theorem keeps_snoc {ps rs : List Str} {r : Str} (h : Keeps ps rs) (h1 : r ∈ PLN) (h2 : isW r ps = false) : Keeps ps (rs ++ [r]) := keeps_app h (pln_keeps h1 h2)
section
variable {P : Program} {w : World} {K : PySem.W.Frag} {mg : Str → Option Value} {base : Heap}
abbrev s_law_group : Stmt := top 36
theorem sc_law_group : FnScope ["bag", "names", "left", "around", "rows", "turn", "room"] ["bag", "names", "left", "around"] (defScope s_law_group) := ⟨rfl, rfl, rfl, by decide +kernel, rfl, by decide +kernel, by decide +kernel⟩
theorem ok_group {d lv : Nat} {sp' : Sp} (hlv : 3 ≤ lv) (hsp : ∀ e, d = e + 1 → sp' = spBlk e) {f : Addr} {fd : FuncData} (F : Fun K "_law_group" "_law_group" s_law_group f fd) (T : Txt mg) (c_take : Cal P w K mg base "_law_take" 1 spTake) (c_plain : Cal P w K mg base "_law_plain" 3 spPlainR) (c_block : Cal P w K mg base "_law_block" lv sp') : FnOk P w K mg base CX0 (lv + 1) f fd ["bag", "names", "left", "around"] (spGrp d) := by
  refine F.ok sc_law_group (fun vs H Q E h => ?_) (fun cdv A outer s H vs Q E hr h => ?_)
  · obtain ⟨b, N, p, n, left, ns, ps, rfl, _⟩ := h
    rfl
  · obtain ⟨b, N, p, n, left, ns, ps, rfl, hB, hn, hps, hN, Nb, ns0, ns3, nsl, hp, pb, hleft, k⟩ := h
    have hu := hu_of hr
    refine ⟨_, (pss_cons (ps_set (i := 4) sc_law_group.nd rfl (Or.inl rfl) (pe_lst pa_nil))
      (pss_cons (ps_for PassesOwn.never rfl (pi_range1 rfl T.n_range (pa_cons (pe_cal c_take (hr.mono (by omega)) (pa_cons (pv 0) (pa_cons pe_int pa_nil))) pa_nil)) (pg_name (i := 5) sc_law_group.nd rfl (Or.inl rfl))
      (pss_cons (ps_set (i := 6) sc_law_group.nd rfl (Or.inl rfl) (pe_op op_sub (pv 2) (pe_callB call_len_seq (by rfl) T.n_len (by decide +kernel) (pa_cons (pv 4) pa_nil))))
      (pss_one (ps_if (PW.pt (pw_and (pt_cmpR op_ge (pv 6) pe_int (nomark _)) (pw_and (pt_cmpR op_lt (pe_callB call_len_seq (by rfl) T.n_len (by decide +kernel) (pa_cons (pv 3) pa_nil)) pe_int (nomark _)) (pw_and1 (pt_cmpR op_eq (pe_cal c_take (hr.mono (by omega)) (pa_cons (pv 0) (pa_cons pe_int pa_nil))) pe_int (nomark _)))))) (pss_one (ps_set (i := 4) sc_law_group.nd rfl (Or.inl rfl) (pe_op op_cat (pv 4) (pe_cal c_block (hr.mono (by omega)) (pa_cons (pv 0) (pa_cons (pv 1) (pa_cons (pv 6) (pa_cons (pv 3) pa_nil)))))))) (pss_one (ps_if (pt_cmpR op_gt (pv 6) pe_int (nomark _)) (pss_one (ps_expr (pe_bm PySem.F.plainAttrs_list PySem.F.slot_list_append PySem.F.type_list_append mt_append (pv 4) (pa_cons (pe_cal c_plain (hr.mono (by omega)) (pa_cons (pv 0) (pa_cons (pv 3) pa_nil))) pa_nil)))) pss_nil))))))
      (pss_one (ps_ret (pv 4))))), ?_⟩
    rw [gC_eq] at k hn
    walk_at "rd"
    refine ⟨by show 0 ≤ sizeLine; decide, fun q hq => ?_⟩
    have T1 := same_new (o := .lst []) (fun a u (e : H a = some u) => e) hq
    have qb := nb_of hB hq
    walk_at "rd"
    refine ⟨b, n, 5, rfl, hB.same T1, by omega, by decide, by decide, fun m H1 m0 m1 B1 S1 => ?_⟩
    have f1 : H1 q = some (.lst (([] : List Str).map V.str)) := S1 _ _ qb upd_same
    have S1 := (Stay.of (b := b) T1).trans S1
    obtain ⟨mm, rfl⟩ := Int.eq_ofNat_of_zero_le m0
    have hmm : mm ≤ 4 := by omega
    clear T1 m0 m1
    walk_at "rd"
    refine ⟨by omega, by omega, ?_⟩
    refine for_range (lo := 0) (fun i σ H' => ∃ (r : Addr) (rs : List Str) (o5 o6 : Option V), σ = [some (.ref b), some (.ref N), some (.int (left : Nat)), some (.ref p), some (.ref r), o5, o6] ∧ H' r = some (.lst (rs.map V.str)) ∧ H r = none ∧ Keeps ps rs ∧ (∀ x ∈ rs, DRow ns x) ∧ rs.length ≤ left ∧ BagAt H' b (n + 1 + i * gT d) ∧ Stay b H H') ⟨q, [], none, none, rfl, f1, hq, keeps_nil ps, fun _ h => (by cases h), Nat.zero_le _, B1.mono (by omega), S1⟩ ?_ ?_
    · rintro i σ H2 hi ⟨r, rs, o5, o6, rfl, fr, hr0, hk, hd, hlen, B2, S2⟩
      have hi : i < mm := hi
      have hb1 : (i + 1) * gT d ≤ 4 * gT d := Nat.mul_le_mul_right _ (by omega)
      have hb2 : (i + 1) * gT d = i * gT d + gT d := by rw [Nat.add_mul, Nat.one_mul]
      have rb : r ≠ b := nb_of hB hr0
      have t2 := gT_2 d
      walk_at "rd"
      refine ⟨r, _, rfl, .inl (SqL.of fr), ?_⟩
      rw [List.length_map]
      walk_at "rd"
      refine ite2 (fun c1 => ?_) (fun c1 => ?_)
      · have c1 := of_decide_eq_true c1
        walk_at "rd"
        refine ⟨p, _, rfl, .inl (SqL.of (S2 _ _ pb hp)), ?_⟩
        rw [List.length_map]
        walk_at "rd"
        refine ite2 (fun c2 => ?_) (fun c2 => ?_)
        · have c2 : ps.length < 5 := by have := of_decide_eq_true c2; omega
          obtain ⟨e, he⟩ : ∃ e, d = e + 1 := ⟨d - 1, by omega⟩
          have hsp := hsp e he
          subst hsp
          have hte : gT d = 8 + 2 * gC e := by rw [he]; rfl
          walk_at "rd"
          refine ⟨b, _, 2, rfl, B2, by omega, by decide, by decide, fun r3 H3 r30 r31 B3 S3 => ?_⟩
          have fr3 := S3 _ _ rb fr
          have S3 := S2.trans S3
          walk_at "rd"
          refine ite2 (fun c3 => ?_) (fun c3 => ?_)
          · walk_at "rd"
            refine ⟨b, N, p, _, left - rs.length, ns, ps, ?_, B3, by omega, by omega, S3 _ _ Nb hN, Nb, ns0, ns3, nsl, S3 _ _ pb hp, pb, by omega, by omega, fun q1 rows1 m1 H4 hk1 hd1 hlen1 hm1 hq10 hq1 B4 S4 => ?_⟩
            · show [V.ref b, V.ref N, V.int ((left : Int) - ((rs.length : Nat) : Int)), V.ref p] = _
              rw [show ((left : Int) - ((rs.length : Nat) : Int)) = ((left - rs.length : Nat) : Int) by omega]
            have fr4 := S4 _ _ rb fr3
            have S4 := S3.trans S4
            refine ⟨r, q1, _, _, rfl, rfl, fr4, hq1, ?_, fun q2 hq2 => ?_⟩
            · rw [List.length_map, List.length_map]
              exact Nat.le_trans (m := 64) (by omega) (by decide)
            have T5 := same_new (o := .lst (rs.map V.str ++ rows1.map V.str)) (fun a u (e : H4 a = some u) => e) hq2
            refine ⟨q2, rs ++ rows1, _, _, rfl, by rw [upd_same, List.map_append], none_stay S4 hB.lstx hq2 B4.lstx, keeps_app hk hk1, fun x hx => (List.mem_append.mp hx).elim (hd x) (hd1 x), by rw [List.length_append]; omega, (B4.same T5).mono (by omega), S4.trans (Stay.of T5)⟩
          · clear c1 c2
            walk_at "rd"
            refine ite2 (fun c => ?_) (fun c => ?_)
            · have c := of_decide_eq_true c
              walk_at "rd"
              refine ⟨.inl ⟨rfl, _, SqL.of fr3⟩, ?_⟩
              walk_at "rd"
              refine ⟨b, p, _, ps, rfl, B3, by omega, S3 _ _ pb hp, pb, by omega, fun y H5 y1 y2 B5 S5 => ?_⟩
              have g := S5 _ _ rb fr3
              have S6 := S3.trans S5
              refine ⟨r, _, _, rfl, rfl, g, ?_, ?_⟩
              · rw [List.length_map]
                exact Nat.lt_of_lt_of_le (m := 64) (by omega) (by decide)
              refine ⟨r, rs ++ [y], _, _, rfl, ?_, hr0, keeps_snoc hk y1 y2, fun x hx => ?_, ?_, ?_, stay_over S6 hr0⟩
              · rw [upd_same, List.map_append]; rfl
              · rcases List.mem_append.mp hx with hx | hx
                · exact hd x hx
                · rw [List.mem_singleton.mp hx]; exact pln_drow y1 ns
              · rw [List.length_append]; show rs.length + 1 ≤ left; omega
              · obtain ⟨d1, m1, k1, e1, e2⟩ := B5.mono (show _ ≤ n + 1 + (i + 1) * gT d by omega)
                exact ⟨d1, m1, k1, (upd_ne rb.symm).trans e1, e2⟩
            · exact ⟨r, rs, _, _, rfl, fr3, hr0, hk, hd, hlen, B3.mono (by omega), S3⟩
        · clear c1 c2
          walk_at "rd"
          refine ite2 (fun c => ?_) (fun c => ?_)
          · have c := of_decide_eq_true c
            walk_at "rd"
            refine ⟨.inl ⟨rfl, _, SqL.of fr⟩, ?_⟩
            walk_at "rd"
            refine ⟨b, p, _, ps, rfl, B2, by omega, S2 _ _ pb hp, pb, by omega, fun y H5 y1 y2 B5 S5 => ?_⟩
            have g := S5 _ _ rb fr
            have S6 := S2.trans S5
            refine ⟨r, _, _, rfl, rfl, g, ?_, ?_⟩
            · rw [List.length_map]
              exact Nat.lt_of_lt_of_le (m := 64) (by omega) (by decide)
            refine ⟨r, rs ++ [y], _, _, rfl, ?_, hr0, keeps_snoc hk y1 y2, fun x hx => ?_, ?_, ?_, stay_over S6 hr0⟩
            · rw [upd_same, List.map_append]; rfl
            · rcases List.mem_append.mp hx with hx | hx
              · exact hd x hx
              · rw [List.mem_singleton.mp hx]; exact pln_drow y1 ns
            · rw [List.length_append]; show rs.length + 1 ≤ left; omega
            · obtain ⟨d1, m1, k1, e1, e2⟩ := B5.mono (show _ ≤ n + 1 + (i + 1) * gT d by omega)
              exact ⟨d1, m1, k1, (upd_ne rb.symm).trans e1, e2⟩
          · exact ⟨r, rs, _, _, rfl, fr, hr0, hk, hd, hlen, B2.mono (by omega), S2⟩
      · clear c1
        walk_at "rd"
        refine ite2 (fun c => ?_) (fun c => ?_)
        · have c := of_decide_eq_true c
          walk_at "rd"
          refine ⟨.inl ⟨rfl, _, SqL.of fr⟩, ?_⟩
          walk_at "rd"
          refine ⟨b, p, _, ps, rfl, B2, by omega, S2 _ _ pb hp, pb, by omega, fun y H5 y1 y2 B5 S5 => ?_⟩
          have g := S5 _ _ rb fr
          have S6 := S2.trans S5
          refine ⟨r, _, _, rfl, rfl, g, ?_, ?_⟩
          · rw [List.length_map]
            exact Nat.lt_of_lt_of_le (m := 64) (by omega) (by decide)
          refine ⟨r, rs ++ [y], _, _, rfl, ?_, hr0, keeps_snoc hk y1 y2, fun x hx => ?_, ?_, ?_, stay_over S6 hr0⟩
          · rw [upd_same, List.map_append]; rfl
          · rcases List.mem_append.mp hx with hx | hx
            · exact hd x hx
            · rw [List.mem_singleton.mp hx]; exact pln_drow y1 ns
          · rw [List.length_append]; show rs.length + 1 ≤ left; omega
          · obtain ⟨d1, m1, k1, e1, e2⟩ := B5.mono (show _ ≤ n + 1 + (i + 1) * gT d by omega)
            exact ⟨d1, m1, k1, (upd_ne rb.symm).trans e1, e2⟩
        · exact ⟨r, rs, _, _, rfl, fr, hr0, hk, hd, hlen, B2.mono (by omega), S2⟩
    · rintro σ H2 ⟨r, rs, o5, o6, rfl, fr, hr0, hk, hd, hlen, B2, S2⟩
      have hb1 : mm * gT d ≤ 4 * gT d := Nat.mul_le_mul_right _ hmm
      rw [Int.toNat_natCast] at B2
      walk_at "rd"
      exact k r rs _ H2 hk hd hlen (by omega) hr0 fr B2 S2
abbrev s_law_function : Stmt := top 37
theorem sc_law_function : FnScope ["bag", "most", "turn", "names", "rows"] ["bag", "most"] (defScope s_law_function) := ⟨rfl, rfl, rfl, by decide +kernel, rfl, by decide +kernel, by decide +kernel⟩
theorem ok_function {lv : Nat} (hlv : 3 ≤ lv) {f : Addr} {fd : FuncData} (F : Fun K "_law_function" "_law_function" s_law_function f fd) (T : Txt mg) (c_names : Cal P w K mg base "_law_names" 2 spNames) (c_plain : Cal P w K mg base "_law_plain" 3 spPlainR) (c_group : Cal P w K mg base "_law_group" lv (spGrp 5)) : FnOk P w K mg base CX0 (lv + 1) f fd ["bag", "most"] spFun := by
  refine F.ok sc_law_function (fun vs H Q E h => ?_) (fun cdv A outer s H vs Q E hr h => ?_)
  · obtain ⟨b, n, most, rfl, _⟩ := h
    rfl
  · obtain ⟨b, n, most, rfl, hB, hn, hm0, hm, k⟩ := h
    have hu := hu_of hr
    have g5 := gC5
    refine ⟨_, (pss_cons (ps_par (i := 3) (j := 4) (by rfl) sc_law_function.nd rfl rfl (by decide) rfl rfl (pa_cons (pe_cal c_names (hr.mono (by omega)) (pa_cons (pv 0) pa_nil)) (pa_cons (pe_lst pa_nil) pa_nil)) (by rfl))
      (pss_cons (ps_for PassesOwn.never rfl (pi_range1 rfl T.n_range (pa_cons pe_int pa_nil)) (pg_name (i := 2) sc_law_function.nd rfl (Or.inl rfl))
      (pss_one (ps_set (i := 4) sc_law_function.nd rfl (Or.inl rfl) (pe_op op_cat (pv 4) (pe_cal c_group (hr.mono (by omega)) (pa_cons (pv 0) (pa_cons (pv 3) (pa_cons (pe_op op_sub (pv 1) (pe_callB call_len_seq (by rfl) T.n_len (by decide +kernel) (pa_cons (pv 4) pa_nil))) (pa_cons (pe_lst pa_nil) pa_nil)))))))))
      (pss_cons (ps_if (pt_cmpR (op_eqD hr.units) (pv 4) (pe_lst pa_nil) (nomark _)) (pss_one (ps_ret (pe_lst (pa_cons (pe_cal c_plain (hr.mono (by omega)) (pa_cons (pv 0) (pa_cons (pe_lst pa_nil) pa_nil))) pa_nil)))) pss_nil)
      (pss_one (ps_ret (pv 4)))))), ?_⟩
    walk_at "rd"
    refine ⟨b, n, rfl, hB, by omega, fun N ns m H1 ns0 ns3 nsl hm1 hN0 hN B1 S1 => ?_⟩
    have Nb := nb_of hB hN0
    walk_at "rd"
    refine ⟨by show 0 ≤ sizeLine; decide, fun q hq => ?_⟩
    have T1 := same_new (o := .lst []) (fun a u (e : H1 a = some u) => e) hq
    have f1 : (upd H1 q (.lst [])) q = some (.lst (([] : List Str).map V.str)) := upd_same
    have hq0 := none_stay S1 hB.lstx hq B1.lstx
    have hN := T1 _ _ hN
    have B1 := B1.same T1
    have S1 := S1.trans (Stay.of T1)
    generalize upd H1 q (.lst []) = H2 at f1 hN B1 S1
    clear T1 hq
    walk_at "rd"
    refine ⟨by decide, by decide, ?_⟩
    refine for_range (lo := 0) (n := 3) (fun i σ H' => ∃ (r : Addr) (rs : List Str) (o2 : Option V), σ = [some (.ref b), some (.int (most : Nat)), o2, some (.ref N), some (.ref r)] ∧ H' r = some (.lst (rs.map V.str)) ∧ H r = none ∧ Keeps [] rs ∧ (∀ x ∈ rs, DRow ns x) ∧ rs.length ≤ most ∧ H' N = some (.lst (ns.map V.str)) ∧ BagAt H' b (n + 100 + i * gC 5) ∧ Stay b H H') ⟨q, [], none, rfl, f1, hq0, keeps_nil _, fun _ h => (by cases h), Nat.zero_le _, hN, B1.mono (by omega), S1⟩ ?_ ?_
    · rintro i σ H3 hi ⟨r, rs, o2, rfl, fr, hr0, hk, hd, hlen, hN3, B3, S3⟩
      have hb1 : (i + 1) * gC 5 = i * gC 5 + gC 5 := by rw [Nat.add_mul, Nat.one_mul]
      have hb0 : i * gC 5 ≤ 2 * gC 5 := Nat.mul_le_mul_right _ (by omega)
      have rb := nb_of hB hr0
      walk_at "rd"
      refine ⟨r, _, rfl, .inl (SqL.of fr), ?_⟩
      rw [List.length_map]
      walk_at "rd"
      refine ⟨by show 0 ≤ sizeLine; decide, fun q1 hq1 => ?_⟩
      have T4 := same_new (o := .lst []) (fun a u (e : H3 a = some u) => e) hq1
      have q1b := nb_of B3 hq1
      refine ⟨b, N, q1, _, most - rs.length, ns, [], ?_, B3.same T4, by omega, rfl, T4 _ _ hN3, Nb, ns0, ns3, nsl, upd_same, q1b, by omega, fun q2 rows1 m1 H4 hk1 hd1 hlen1 hm1 hq20 hq2 B4 S4 => ?_⟩
      · show [V.ref b, V.ref N, V.int ((most : Int) - ((rs.length : Nat) : Int)), V.ref q1] = _
        rw [show ((most : Int) - ((rs.length : Nat) : Int)) = ((most - rs.length : Nat) : Int) by omega]
      have S4 := (Stay.of (b := b) T4).trans S4
      have fr4 := S4 _ _ rb fr
      have hN4 := S4 _ _ Nb hN3
      have S4 := S3.trans S4
      refine ⟨r, q2, _, _, rfl, rfl, fr4, hq2, ?_, fun q3 hq3 => ?_⟩
      · rw [List.length_map, List.length_map]
        exact Nat.le_trans (m := 64) (by omega) (by decide)
      have T5 := same_new (o := .lst (rs.map V.str ++ rows1.map V.str)) (fun a u (e : H4 a = some u) => e) hq3
      refine ⟨q3, rs ++ rows1, _, rfl, by rw [upd_same, List.map_append], none_stay S4 hB.lstx hq3 B4.lstx, keeps_app hk hk1, fun x hx => (List.mem_append.mp hx).elim (hd x) (hd1 x), by rw [List.length_append]; omega, T5 _ _ hN4, (B4.same T5).mono (by omega), S4.trans (Stay.of T5)⟩
    · rintro σ H3 ⟨r, rs, o2, rfl, fr, hr0, hk, hd, hlen, hN3, B3, S3⟩
      have rb := nb_of hB hr0
      walk_at "rd"
      refine ⟨by show 0 ≤ sizeLine; decide, fun e he => ?_⟩
      have T4 := same_new (o := .lst []) (fun a u (e : H3 a = some u) => e) he
      refine ⟨.list (datS rs), .list [], .lst (SqL.of (T4 _ _ fr)) (dpAll_s _), .lst (SqL.of upd_same) .nil, rk_shaped (fun x hx => drow_rk (hd x hx)), rfl, ?_⟩
      rw [eqvNil]
      walk_at "rd"
      have B4 := B3.same T4
      have S4 := S3.trans (Stay.of T4)
      have fr4 := T4 _ _ fr
      generalize upd H3 e (.lst []) = H4 at B4 S4 fr4
      refine ite2 (fun c => ?_) (fun c => ?_)
      · walk_at "rd"
        refine ⟨by show 0 ≤ sizeLine; decide, fun q1 hq1 => ?_⟩
        have T5 := same_new (o := .lst []) (fun a u (e : H4 a = some u) => e) hq1
        refine ⟨b, q1, _, [], rfl, B4.same T5, by omega, upd_same, nb_of B4 hq1, by decide, fun y H5 y1 y2 B5 S5 => ?_⟩
        have S5 := S4.trans ((Stay.of T5).trans S5)
        refine ⟨by show 1 ≤ sizeLine; decide, fun q2 hq2 => ?_⟩
        have T6 := same_new (o := .lst [V.str y]) (fun a u (e : H5 a = some u) => e) hq2
        exact k q2 [y] ns _ _ (pln_keeps y1 y2) (fun r hr => by rw [List.mem_singleton.mp hr]; exact pln_drow y1 ns) ns3 (by simp) (by show 1 ≤ most; omega) (show n + 100 + 3 * gC 5 + 1 ≤ n + 10000000 by omega) (none_stay S5 hB.lstx hq2 B5.lstx) (by rw [upd_same]; rfl) (B5.same T6) (S5.trans (Stay.of T6))
      · walk_at "rd"
        exact k r rs ns _ H4 hk hd ns3 (fun e => by rw [e] at c; exact c rfl) hlen (show n + 100 + 3 * gC 5 ≤ n + 10000000 by omega) hr0 fr4 B4 S4
end
end Ow

set_option Elab.async false
set_option linter.all false
set_option maxRecDepth 100000
set_option maxHeartbeats 4000000
namespace Ow
open PySem PySem.Spec PyProof.Rows L2 Fn ErX
local macro_rules | `(tactic| walk_at "rd") => `(tactic| repeat (first | (refine ⟨_, rfl, ?_⟩) | (refine ⟨_, _, rfl, rfl, ?_⟩) | (refine ⟨rfl, ?_⟩) | (refine ⟨_, _, rfl, ?_⟩) | (refine Or.inl ⟨_, rfl, ?_⟩) | (refine ⟨(by first | (show (0 : Int) < (_ : Int); decide) | exact Or.inl ⟨by decide, by decide⟩ | exact Or.inr ⟨by decide, by decide⟩ | exact ⟨by decide, by decide⟩ | exact ⟨by decide, by decide, by decide⟩), ?_⟩)))
local macro_rules | `(tactic| walk_at "at") => `(tactic| first | assumption | exact upd_same | exact at_new (by assumption) | (refine at_same (by assumption) ?_; walk_at "at") | (refine at_old (by assumption) ?_ ?_; (focus walk_at "ne"); walk_at "at") | (refine at_upd ?_ ?_; (focus walk_at "ne"); walk_at "at") | (refine at_stay (by assumption) ?_ ?_; (focus walk_at "ne"); walk_at "at"))
local macro_rules | `(tactic| walk_at "ex") => `(tactic| first | exact ⟨_, by assumption⟩ | exact ⟨_, upd_same⟩ | exact ⟨_, at_new (by assumption)⟩ | (refine ex_same (by assumption) ?_; walk_at "ex") | (refine ex_old (by assumption) ?_; walk_at "ex") | (refine ex_upd ?_; walk_at "ex") | (refine ex_stay (by assumption) ?_ ?_; (focus walk_at "ne"); walk_at "ex"))
local macro_rules | `(tactic| walk_at "ne") => `(tactic| first | assumption | (refine Ne.symm ?_; assumption) | (refine ne_fx (by assumption) ?_; walk_at "ex") | (refine Ne.symm (ne_fx (by assumption) ?_); walk_at "ex") | (refine ne_kx (by assumption) ?_; (apply Exists.intro; refine And.intro ?_ ?_; (focus walk_at "at"); (intro z; cases z))) | (refine Ne.symm (ne_kx (by assumption) ?_); (apply Exists.intro; refine And.intro ?_ ?_; (focus walk_at "at"); (intro z; cases z))))
section
variable {P : Program} {w : World} {K : PySem.W.Frag} {mg : Str → Option Value} {base : Heap} {C CB CT CN : Addr}
abbrev s_law_spaced : Stmt := top 38
theorem sc_law_spaced : FnScope ["bag", "rows", "found", "row", "text", "word"] ["bag", "rows"] (defScope s_law_spaced) := ⟨rfl, rfl, rfl, by decide +kernel, rfl, by decide +kernel, by decide +kernel⟩
theorem ok_lspaced {f : Addr} {fd : FuncData} (F : Fun K "_law_spaced" "_law_spaced" s_law_spaced f fd) (T : Txt mg) (c_take : Cal P w K mg base "_law_take" 1 spTake) : FnOk P w K mg base CX0 2 f fd ["bag", "rows"] (spLSpaced K) := by
  refine F.ok sc_law_spaced (fun vs H Q E h => ?_) (fun cdv A outer s H vs Q E hr h => ?_)
  · obtain ⟨b, p, n, rows, ns, rfl, _⟩ := h
    rfl
  · obtain ⟨b, p, n, rows, ns, rfl, hB, hn, hp, pb, hD, hne, hl, kk⟩ := h
    have hu := hu_of hr
    refine ⟨_, (pss_cons (ps_set (i := 2) sc_law_spaced.nd rfl (Or.inl rfl) (pe_lst pa_nil))
      (pss_cons (ps_for PassesOwn.never rfl (pi_list (pv 1)) (pg_name (i := 3) sc_law_spaced.nd rfl (Or.inl rfl))
      (pss_cons (ps_set (i := 4) sc_law_spaced.nd rfl (Or.inl rfl) (pe_op OpX.op_mul_str pe_str (pe_cal c_take (hr.mono (by decide)) (pa_cons (pv 0) (pa_cons pe_int pa_nil)))))
      (pss_cons (ps_for PassesOwn.never rfl (pi_list (pe_split (pv 3) pe_str)) (pg_name (i := 5) sc_law_spaced.nd rfl (Or.inl rfl))
      (pss_one (ps_set (i := 4) sc_law_spaced.nd rfl (Or.inl rfl) (pe_op op_add_str (pe_op op_add_str (pv 4) (pv 5)) (pe_op OpX.op_mul_str pe_str (pe_op op_add pe_int (pe_cal c_take (hr.mono (by decide)) (pa_cons (pv 0) (pa_cons pe_int pa_nil)))))))))
      (pss_one (ps_expr (pe_bm PySem.F.plainAttrs_list PySem.F.slot_list_append PySem.F.type_list_append mt_append (pv 2) (pa_cons (pe_ifExp (pt_cmpR op_eq (pe_cal c_take (hr.mono (by decide)) (pa_cons (pv 0) (pa_cons pe_int pa_nil))) pe_int (nomark _)) (pv 4) (pe_strip (pv 4))) pa_nil)))))))
      (pss_one (ps_ret (pe_join pe_str (pv 2)))))), ?_⟩
    walk_at "rd"
    refine ⟨by show 0 ≤ sizeLine; decide, fun q hq => ?_⟩
    have T1 := same_new (o := .lst []) (fun a u (e : H a = some u) => e) hq
    have f1 : (upd H q (.lst [])) q = some (.lst (([] : List Str).map V.str)) := upd_same
    have B1 := hB.same T1
    have qb := nb_of hB hq
    have pq : p ≠ q := ne_of_none hp hq
    generalize upd H q (.lst []) = H1 at f1 T1 B1
    walk_at "rd"
    refine ⟨⟨_, SqL.of (T1 _ _ hp)⟩, for_list (a := p) (xs := rows.map V.str) (fun i σ H' => ∃ (o3 o4 o5 : Option V) (ts : List Str), σ = [some (.ref b), some (.ref p), some (.ref q), o3, o4, o5] ∧ H' q = some (.lst (ts.map V.str)) ∧ Spds (rows.take i) ts ∧ BagAt H' b (n + 4 * i) ∧ Stay b H H') ⟨_, _, _, [], rfl, f1, ⟨rfl, fun i r t h => (by cases h)⟩, B1, Stay.of T1⟩ (fun i σ H' _ h => ?_) ?_ ?_⟩
    · obtain ⟨_, _, _, _, _, _, _, _, s⟩ := h
      exact SqL.of (s _ _ pb hp)
    · rintro i v σ H2 hi ⟨o3, o4, o5, ts, rfl, f2, hts, B2, S2⟩
      rw [List.getElem?_map] at hi
      obtain ⟨r, hr, rfl⟩ := Option.map_eq_some_iff.mp hi
      have hil := (List.getElem?_eq_some_iff.mp hr).1
      have hDr := hD r (List.mem_of_getElem? hr)
      obtain ⟨hws, hwd, _⟩ := drow_words hDr
      have hwl : (Txt.split r " ").length ≤ 2 := by
        rcases hws with ⟨a, e⟩ | ⟨a, b, e⟩ <;> rw [e] <;> simp
      walk_at "rd"
      refine ⟨b, _, 3, rfl, B2, by omega, by decide, by decide, fun t1 H3 t10 t11 B3 S3 => ?_⟩
      have f2 := S3 _ _ qb f2
      have S3 := S2.trans S3
      clear S2 B2
      obtain ⟨n0, rfl, hn0, hmul⟩ := mul_tl t10 (Int.lt_of_lt_of_le t11 (by decide))
      have hn2 : n0 ≤ 2 := by
        have t11 : (n0 : Int) < 3 := t11
        omega
      refine ⟨" ", (n0 : Int), rfl, rfl, by decide +kernel, by omega, by omega, ?_⟩
      have hm0 : (Txt.mul " " (n0 : Int)).length = n0 := by rw [TL.len_tl, hmul]; unfold sps; rw [List.length_replicate]
      walk_at "rd"
      refine ⟨⟨_, rfl⟩, ?_⟩
      refine ⟨_, _, rfl, rfl, rfl, (drow_raw hDr).len, fun q2 hq2 => ?_⟩
      have T6 := same_new (o := .lst ((Txt.split r " ").map V.str)) (fun a u (e : H3 a = some u) => e) hq2
      have f2 := T6 _ _ f2
      have gq : (upd H3 q2 (.lst ((Txt.split r " ").map V.str))) q2 = some (.lst ((Txt.split r " ").map V.str)) := upd_same
      have q2b := nb_of B3 hq2
      have B4 := B3.same T6
      have S4 := S3.trans (Stay.of T6)
      generalize upd H3 q2 (.lst ((Txt.split r " ").map V.str)) = H4 at f2 gq B4 S4
      clear hq2 T6 S3 B3
      refine ⟨q2, rfl, ⟨_, SqL.of gq⟩, for_list (a := q2) (xs := (Txt.split r " ").map V.str) (fun j σ H' => ∃ (o5 : Option V) (t : Str) (ms : List Nat), σ = [some (.ref b), some (.ref p), some (.ref q), some (.str r), some (.str t), o5] ∧ TL.tl t = sps n0 ++ bod ((Txt.split r " ").take j) ms ∧ ms.length = j ∧ (∀ m ∈ ms, m ≤ 1) ∧ t.length ≤ 2 + 10 * j ∧ BagAt H' b (n + 4 * i + 1 + j) ∧ Stay b H4 H') ⟨_, _, [], rfl, by rw [hmul]; simp [bod], rfl, fun _ h => (by cases h), by omega, B4, Stay.of fun _ _ e => e⟩ (fun j σ H' _ h => ?_) ?_ ?_⟩
      · obtain ⟨_, _, _, _, _, _, _, _, _, s⟩ := h
        exact SqL.of (s _ _ q2b gq)
      · rintro j v σ H5 hj ⟨o5, t, ms, rfl, ht, hml, hm1, htl, B5, S5⟩
        rw [List.getElem?_map] at hj
        obtain ⟨wd, hwj, rfl⟩ := Option.map_eq_some_iff.mp hj
        have hjl := (List.getElem?_eq_some_iff.mp hwj).1
        have hwd1 := hwd wd (List.mem_of_getElem? hwj)
        have hwl8 := hwd1.len
        have hsz : (1000 : Nat) ≤ sizeLine := by decide
        walk_at "rd"
        refine ⟨by omega, ?_⟩
        walk_at "rd"
        refine ⟨b, _, 2, rfl, B5, by omega, by decide, by decide, fun t2 H6 t20 t21 B6 S6 => ?_⟩
        obtain ⟨m, rfl⟩ := Int.eq_ofNat_of_zero_le t20
        have hm2 : m ≤ 1 := by
          have t21 : (m : Int) < 2 := t21
          omega
        walk_at "rd"
        obtain ⟨m', e', _, hmul2⟩ := mul_tl (i := 1 + (m : Int)) (by omega) (by omega)
        have e'' : m' = m + 1 := by omega
        subst e''
        have hm0' : (Txt.mul " " (1 + (m : Int))).length = m + 1 := by rw [TL.len_tl, hmul2]; unfold sps; rw [List.length_replicate]
        refine ⟨by decide +kernel, by omega, by omega, ?_⟩
        refine ⟨_, _, rfl, rfl, by simp only [PySem.Str.length_append, hm0']; omega, ?_⟩
        refine ⟨_, _, ms ++ [m], rfl, ?_, by rw [List.length_append, hml]; rfl, fun y hy => ?_, by simp only [PySem.Str.length_append, hm0']; omega, B6.mono (by omega), S5.trans S6⟩
        · rw [TL.tl_append, TL.tl_append, ht, hmul2, List.take_succ, hwj]
          show _ = sps n0 ++ bod ((Txt.split r " ").take j ++ [wd]) (ms ++ [m])
          rw [bod_snoc (by rw [List.length_take, hml]; omega)]
          simp only [List.append_assoc]
        · rcases List.mem_append.mp hy with hy | hy
          · exact hm1 y hy
          · rw [List.mem_singleton.mp hy]; exact hm2
      · rintro σ H5 ⟨o5, t, ms, rfl, ht, hml, hm1, htl, B5, S5⟩
        rw [List.length_map] at ht hml B5 htl
        rw [List.take_length] at ht
        obtain ⟨sp1, sp2⟩ := spaced_any hDr ht hml hn2 hm1
        have f2 := S5 _ _ qb f2
        have S5 := S4.trans S5
        have hsz : (1000 : Nat) ≤ sizeLine := by decide
        have htl2 : ts.length = i := by rw [hts.1, List.length_take]; omega
        walk_at "rd"
        refine ⟨.inl ⟨rfl, _, SqL.of f2⟩, ?_⟩
        walk_at "rd"
        refine ⟨b, _, 2, rfl, B5, by omega, by decide, by decide, fun t3 H6 t30 t31 B6 S6 => ?_⟩
        have f2 := S6 _ _ qb f2
        have S6 := S5.trans S6
        have fin : ∀ t' : Str, Spd r t' → rAppend (.ref q) [.str t'] H6 (fun x H1 => ∃ (o3 o4 o5' : Option V) (ts : List Str), [some (V.ref b), some (.ref p), some (.ref q), some (.str r), some (.str t), o5] = [some (V.ref b), some (.ref p), some (.ref q), o3, o4, o5'] ∧ H1 q = some (.lst (ts.map V.str)) ∧ Spds (rows.take (i + 1)) ts ∧ BagAt H1 b (n + 4 * (i + 1)) ∧ Stay b H H1) := fun t' ht' => by
          refine ⟨q, _, _, rfl, rfl, f2, by rw [List.length_map]; omega, ?_⟩
          refine ⟨_, _, _, ts ++ [t'], rfl, by rw [upd_same, List.map_append]; rfl, spds_snoc hts hr ht', ?_, stay_over S6 hq⟩
          obtain ⟨d1, m1, k1, e1, e2⟩ := B6.mono (show _ ≤ n + 4 * (i + 1) by omega)
          exact ⟨d1, m1, k1, (upd_ne qb.symm).trans e1, e2⟩
        walk_at "rd"
        refine ite2 (fun c => ?_) (fun c => ?_)
        · walk_at "rd"
          exact fin t sp1
        · walk_at "rd"
          refine ⟨⟨_, rfl⟩, ?_⟩
          refine ⟨_, rfl, rfl, by omega, ?_⟩
          exact fin _ sp2
    · rintro σ H2 ⟨o3, o4, o5, ts, rfl, f2, hts, B2, S2⟩
      rw [List.length_map] at hts B2
      rw [List.take_length] at hts
      obtain ⟨n1, n2⟩ := spds_len hts hl
      refine ⟨⟨_, rfl⟩, ?_⟩
      walk_at "rd"
      refine ⟨_, q, ts, rfl, rfl, .inl (SqL.of f2), n2, ?_⟩
      exact kk ts H2 hts B2 S2
abbrev s_law_refused : Stmt := top 39
theorem sc_law_refused : FnScope ["some", "e"] ["some"] (defScope s_law_refused) := ⟨rfl, rfl, rfl, by decide +kernel, rfl, by decide +kernel, by decide +kernel⟩
theorem ok_lrefused {f : Addr} {fd : FuncData} (F : Fun K "_law_refused" "_law_refused" s_law_refused f fd) (T : Txt mg) (hC : mg "Function" = some (.ref C)) (gB : mg "BadFunction" = some (.ref CB)) (EB : ErMk P w K mg base 2 "BadFunction" CB "row") (hbb : PySem.W.exmOne K (.ref CB) (.ref CB) = some true) (c_of : ClmX P w K mg base C "of" 7 (spOfF C CB)) : FnOk P w K mg base CX0 8 f fd ["some"] (spLRef K) := by
  refine F.ok sc_law_refused (fun vs H Q E h => ?_) (fun cdv A outer s H vs Q E hr h => ?_)
  · obtain ⟨p, ts, k, rfl, _⟩ := h
    rfl
  · obtain ⟨p, ts, k, rfl, hp, hc, kk⟩ := h
    have hu := hu_of hr
    refine ⟨_, (pss_cons (ps_clauses pss_nil rfl rfl sc_law_refused.nd takes0 (fun W pn xe tk po => (pss_one (ps_if (pt_cmpR (op_eqDK (K := K) rfl hr.units) (pv 0) (pe_lst pa_nil) (nomark _)) (pss_one (ps_expr (pe_clmX0 c_of (hr.mono (by decide)) (at_try tk) (pe_glob (v := .ref C) rfl hC rfl)))) (pss_one (ps_expr (pe_clmX c_of (hr.mono (by decide)) (at_try tk) (pe_glob (v := .ref C) rfl hC rfl) (pa_cons (pe_ix (ix_listK (K := K) rfl) (pv 0) pe_int (fun _ _ => rfl)) (pa_cons (pe_ix (ix_listK (K := K) rfl) (pv 0) pe_int (fun _ _ => rfl)) pa_nil))))))))
      (Clauses.named (i := 1) ⟨rfl, by decide +kernel, .inl gB⟩ rfl rfl (fun a oe cls d pn hz hf => (pss_one (ps_ret (pe_xf EB.xf EB.no hz hf (pv 1)))))
      Clauses.nil))
      (pss_one (ps_ret (pe_un un_neg pe_int)))), ?_⟩
    obtain ⟨hsh, hsm, hln, hraw, h24, hbad⟩ := lrc_ok hc
    walk_at "rd"
    refine ⟨by show 0 ≤ sizeLine; decide, fun z hz => ?_⟩
    have T1 := same_new (o := .lst []) (fun a u (e : H a = some u) => e) hz
    have gz : (upd H z (.lst [])) z = some (.lst []) := upd_same
    generalize upd H z (.lst []) = H1 at gz T1
    refine ⟨.list (datS ts), .list [], .lst (sqL_same hp T1) (dpAll_s _), .lst (SqL.of gz) .nil, hsh, rfl, ?_⟩
    rw [eqvNil]
    walk_at "rd"
    refine ite2 (fun c => ?_) (fun c => ?_)
    · have hts : ts = [] := List.isEmpty_iff.mp c
      walk_at "rd"
      refine ⟨ts, by rw [hts]; rfl, hsm, fun G SG => ⟨hln, hraw, h24, fun n hb d H2 hd hd1 S2 => ?_, fun hg => (bad_good hbad hg).elim⟩⟩
      refine ⟨true, hbb, fun _ a ha => ?_, fun h => Bool.noConfusion h⟩
      walk_at "rd"
      refine ⟨d, _, _, rfl, hd1, rfl, ?_⟩
      rw [bad_inj hb hbad]
      exact kk _ (same_trans (same_trans T1 SG) S2)
    · obtain ⟨x, y, hxy⟩ : ∃ x y, ts = [x, y] := by
        rcases hc with ⟨e, _⟩ | ⟨e, _⟩ | ⟨e, _⟩
        · rw [e] at c; exact absurd rfl c
        · exact ⟨_, _, e⟩
        · exact ⟨_, _, e⟩
      have hp1 := sqL_same hp T1
      walk_at "rd"
      refine ⟨p, _, _, .str x, rfl, rfl, hp1, atI_nat (j := 0) (by rw [hxy]; rfl), ?_⟩
      walk_at "rd"
      refine ⟨p, _, _, .str y, rfl, rfl, hp1, atI_nat (j := 1) (by rw [hxy]; rfl), ?_⟩
      refine ⟨ts, by rw [hxy]; rfl, hsm, fun G SG => ⟨hln, hraw, h24, fun n hb d H2 hd hd1 S2 => ?_, fun hg => (bad_good hbad hg).elim⟩⟩
      refine ⟨true, hbb, fun _ a ha => ?_, fun h => Bool.noConfusion h⟩
      walk_at "rd"
      refine ⟨d, _, _, rfl, hd1, rfl, ?_⟩
      rw [bad_inj hb hbad]
      exact kk _ (same_trans (same_trans T1 SG) S2)
abbrev s_law_more : Stmt := top 40
theorem sc_law_more : FnScope ["function", "rows", "steps", "waits"] ["function", "rows"] (defScope s_law_more) := ⟨rfl, rfl, rfl, by decide +kernel, rfl, by decide +kernel, by decide +kernel⟩
theorem ok_more {f : Addr} {fd : FuncData} (F : Fun K "_law_more" "_law_more" s_law_more f fd) (T : Txt mg) (R : FnK K C) (hC : mg "Function" = some (.ref C)) (c_of : ClmX P w K mg base C "of" 7 (spOfF C CB)) (c_lrefused : Cal P w K mg base "_law_refused" 8 (spLRef K)) (c_str : OpX.CalG P w K mg base C "__str__" 1 (spFStr C)) (c_waits : CalM P w K mg base C "waits" 3 (spWts C)) (c_steps : CalM P w K mg base C "step_rows" 3 (spSts C)) : FnOk P w K mg base CX0 9 f fd ["function", "rows"] (spLMore K C) := by
  refine F.ok sc_law_more (fun vs H Q E h => ?_) (fun cdv A outer s H vs Q E hr h => ?_)
  · obtain ⟨p, r, dx, rows, ys, ns, rfl, _⟩ := h
    rfl
  · obtain ⟨p, r, dx, rows, ys, ns, rfl, hF, hrw, hkp, hD, hns, hne, hl, kk⟩ := h
    have hu := hu_of hr
    refine ⟨_, (pss_cons (ps_if (PW.pt (pw_and (pt_cmpR op_lt (pe_callB call_len_seq (by rfl) T.n_len (by decide +kernel) (pa_cons (pv 1) pa_nil)) pe_int (nomark _)) (pw_and1 (pt_cmpR (op_neD hr.units) (pe_fld (pe_clmX c_of (hr.mono (by decide)) at_no (pe_glob (v := .ref C) rfl hC rfl) (pa_cons pe_str (pa_cons (pe_callTy (OpX.call_strC c_str (hr.mono (by decide))) (by rfl) T.n_str (by decide +kernel) (pa_cons (pv 0) pa_nil)) pa_nil))) rfl) (pe_op op_catT (pe_tup (pa_cons pe_str (pa_cons pe_str pa_nil))) (pe_callTy call_tuple_of (by rfl) T.n_tuple (by decide +kernel) (pa_cons (pv 1) pa_nil))) (nomark _))))) (pss_one (ps_ret pe_bl)) pss_nil)
      (pss_cons (ps_if (PW.pt (pw_or (pt_cmpR op_ne (pe_cal c_lrefused (hr.mono (by decide)) (pa_cons (pe_lst pa_nil) pa_nil)) pe_int (nomark _)) (pw_or (pt_cmpR op_ne (pe_cal c_lrefused (hr.mono (by decide)) (pa_cons (pe_lst (pa_cons pe_str (pa_cons pe_str pa_nil))) pa_nil)) pe_int (nomark _)) (pw_or1 (pt_cmpR op_ne (pe_cal c_lrefused (hr.mono (by decide)) (pa_cons (pe_lst (pa_cons pe_str (pa_cons pe_str pa_nil))) pa_nil)) pe_int (nomark _)))))) (pss_one (ps_ret pe_bl)) pss_nil)
      (pss_cons (ps_par (i := 2) (j := 3) (by rfl) sc_law_more.nd rfl rfl (by decide) rfl rfl (pa_cons (pe_calM0 c_steps (hr.mono (by decide)) (pv 0)) (pa_cons (pe_calM0 c_waits (hr.mono (by decide)) (pv 0)) pa_nil)) (by rfl))
      (pss_cons (ps_expr (pe_bm PySem.F.plainAttrs_list PySem.F.slot_list_append PySem.F.type_list_append mt_append (pe_calM0 c_steps (hr.mono (by decide)) (pv 0)) (pa_cons pe_int pa_nil)))
      (pss_cons (ps_expr (pe_bm PySem.F.plainAttrs_list PySem.F.slot_list_append PySem.F.type_list_append mt_append (pe_calM0 c_waits (hr.mono (by decide)) (pv 0)) (pa_cons pe_int pa_nil)))
      (pss_one (ps_ret (pe_and (pe_cmpR (op_eqD hr.units) (pe_calM0 c_steps (hr.mono (by decide)) (pv 0)) (pv 2) (nomark _)) (pe_one (pe_cmpR (op_eqD hr.units) (pe_calM0 c_waits (hr.mono (by decide)) (pv 0)) (pv 3) (nomark _))))))))))), ?_⟩
    have hk : ∀ r ∈ rows, RK r := fun r hr => drow_rk (hD r hr)
    have hg := keeps_good hkp
    refine seq_cutS (fun σ' H' => σ' = [some (.ref p), some (.ref r), none, none] ∧ Same H H') (fun σ' H' hc => ?_) (fun fin => ?_)
    · obtain ⟨rfl, S1⟩ := hc
      have hF0 := hF
      walk_at "rd"
      refine ⟨by show 0 ≤ sizeLine; decide, fun z hz => ?_⟩
      have T2 := same_new (o := .lst []) (fun a u (e : H' a = some u) => e) hz
      refine ⟨z, [], 0, rfl, SqL.of upd_same, .inl ⟨rfl, rfl⟩, fun H3 S3 => ?_⟩
      have S3 := same_trans S1 (same_trans T2 S3)
      clear hz T2
      have n0 : ∀ k : Int, ¬ (!decide (V.int k = V.int k)) = true := fun k h => by
        rw [decide_eq_true rfl] at h
        cases h
      walk_at "rd"
      refine ite2 (fun e => (n0 0 e).elim) (fun _ => ?_)
      refine ⟨by show 2 ≤ sizeLine; decide, fun z hz => ?_⟩
      have T4 := same_new (o := .lst [.str "ask", .str "end"]) (fun a u (e : H3 a = some u) => e) hz
      refine ⟨z, [("ask" : Str), ("end" : Str)], 1, rfl, SqL.of upd_same, .inr (.inl ⟨rfl, rfl⟩), fun H4 S4 => ?_⟩
      have S4 := same_trans S3 (same_trans T4 S4)
      clear hz T4
      walk_at "rd"
      refine ite2 (fun e => (n0 1 e).elim) (fun _ => ?_)
      refine ⟨by show 2 ≤ sizeLine; decide, fun z hz => ?_⟩
      have T5 := same_new (o := .lst [.str "pause", .str "ask\n"]) (fun a u (e : H4 a = some u) => e) hz
      refine ⟨z, [("pause" : Str), ("ask\n" : Str)], 2, rfl, SqL.of upd_same, .inr (.inr ⟨rfl, rfl⟩), fun H5 S5 => ?_⟩
      have S5 := same_trans S4 (same_trans T5 S5)
      clear hz T5
      have hF := hF0.same S5
      obtain ⟨a1, b1, c1, p1, _⟩ := id hF
      have hsl : (sts rows).length ≤ 24 := Nat.le_trans (range_le _ _) hl
      have hwl : (wts rows).length ≤ 24 := Nat.le_trans (range_le _ _) hl
      walk_at "rd"
      refine ⟨p, dx, _, rfl, p1, rfl, ?_⟩
      walk_at "rd"
      refine ⟨p, dx, rows, ys, rfl, hF, hg, by omega, fun s1 H6 s10 s11 S6 => ?_⟩
      have hF := hF.same S6
      walk_at "rd"
      refine ⟨p, dx, _, rfl, S6 _ _ p1, rfl, ?_⟩
      walk_at "rd"
      refine ⟨p, dx, rows, ys, rfl, hF, by omega, fun w1 H7 w10 w11 S7 => ?_⟩
      have s11 := S7 _ _ s11
      have hF := hF.same S7
      have SA := same_trans S5 (same_trans S6 S7)
      clear S7 S6 s10 w10 p1
      obtain ⟨a2, b2, c2, p2, _⟩ := id hF
      walk_at "rd"
      refine ⟨p, dx, _, rfl, p2, rfl, ?_⟩
      walk_at "rd"
      refine ⟨p, dx, rows, ys, rfl, hF, hg, by omega, fun s2 H8 s20 s21 S8 => ?_⟩
      walk_at "rd"
      refine ⟨.inl ⟨rfl, _, SqL.of s21⟩, ?_⟩
      walk_at "rd"
      refine ⟨s2, _, _, rfl, rfl, s21, by rw [nV_len]; exact Nat.lt_of_le_of_lt hsl (by decide), ?_⟩
      have S9 := same_over (o := .lst (nV (sts rows) ++ [V.int 99])) S8 s20
      generalize upd H8 s2 (.lst (nV (sts rows) ++ [V.int 99])) = H9 at S9
      have hF := hF.same S9
      have s11 := S9 _ _ s11
      have w11 := S9 _ _ w11
      have SA := same_trans SA S9
      walk_at "rd"
      refine ⟨p, dx, _, rfl, S9 _ _ p2, rfl, ?_⟩
      walk_at "rd"
      refine ⟨p, dx, rows, ys, rfl, hF, by omega, fun w2 H10 w20 w21 S10 => ?_⟩
      walk_at "rd"
      refine ⟨.inl ⟨rfl, _, SqL.of w21⟩, ?_⟩
      walk_at "rd"
      refine ⟨w2, _, _, rfl, rfl, w21, by rw [nV_len]; exact Nat.lt_of_le_of_lt hwl (by decide), ?_⟩
      have S11 := same_over (o := .lst (nV (wts rows) ++ [V.int 99])) S10 w20
      generalize upd H10 w2 (.lst (nV (wts rows) ++ [V.int 99])) = H11 at S11
      have hF := hF.same S11
      have s11 := S11 _ _ s11
      have w11 := S11 _ _ w11
      have SA := same_trans SA S11
      clear S9 S8 S10 S11 s21 w21 s20 w20 p2
      obtain ⟨a3, b3, c3, p3, _⟩ := id hF
      walk_at "rd"
      refine ⟨p, dx, _, rfl, p3, rfl, ?_⟩
      walk_at "rd"
      refine ⟨p, dx, rows, ys, rfl, hF, hg, by omega, fun s3 H12 s30 s31 S12 => ?_⟩
      walk_at "rd"
      refine ⟨.list (datN (sts rows)), .list (datN (sts rows)), .lst (SqL.of s31) (dpAll_n _), .lst (SqL.of (S12 _ _ s11)) (dpAll_n _), shaped_n _, shaped_n _, ?_⟩
      rw [eqvN_self]
      refine ⟨true, rfl, ?_⟩
      rw [if_pos rfl]
      have hF := hF.same S12
      have w11 := S12 _ _ w11
      have SA := same_trans SA S12
      obtain ⟨a4, b4, c4, p4, _⟩ := id hF
      walk_at "rd"
      refine ⟨p, dx, _, rfl, p4, rfl, ?_⟩
      walk_at "rd"
      refine ⟨p, dx, rows, ys, rfl, hF, by omega, fun w3 H13 w30 w31 S13 => ?_⟩
      walk_at "rd"
      refine ⟨.list (datN (wts rows)), .list (datN (wts rows)), .lst (SqL.of w31) (dpAll_n _), .lst (SqL.of (S13 _ _ w11)) (dpAll_n _), shaped_n _, shaped_n _, ?_⟩
      rw [eqvN_self]
      exact kk _ (same_trans SA S13)
    · walk_at "rd"
      refine ⟨r, _, rfl, .inl hrw, ?_⟩
      rw [List.length_map]
      walk_at "rd"
      refine ite2 (fun c => ?_) (fun c => ?_)
      · have c : rows.length < 23 := by
          have c := of_decide_eq_true c
          omega
        obtain ⟨a1, b1, c1, p1, _⟩ := id hF
        walk_at "rd"
        refine ⟨p, dx, _, rfl, p1, p, dx, rows, ys, rfl, hF, hk, hl, fun H1 S1 => ⟨_, rfl, ?_⟩⟩
        have hdr : ∀ x ∈ [("ask" : Str), ("read" : Str)] ++ rows, DRow ns x := fun x hx => by
          rcases List.mem_append.mp hx with hx | hx
          · exact drow_pl ((by decide +kernel : ∀ z ∈ [("ask" : Str), ("read" : Str)], z ∈ PL5) x hx)
          · exact hD x hx
        walk_at "rd"
        refine ⟨[("ask\nread" : Str), Txt.join "\n" rows], rfl, ⟨by simp, ?_⟩, fun G SG => ?_⟩
        · have := rk_num hk
          have e : ("ask\nread" : Str).length = 8 := by decide +kernel
          simp only [List.map_cons, List.map_nil, List.sum_cons, List.sum_nil, e]
          omega
        rw [more_txt hne]
        refine of_good hdr hns (by simp) (by simp only [List.length_append, List.length_cons, List.length_nil]; omega) (pre_good hkp) fun x dx2 ys2 H2 hx hF2 hL2 S2 => ?_
        obtain ⟨a2, b2, c2, p2, q2, _⟩ := id hF2
        refine ⟨x, C, dx2, _, .ref a2, rfl, p2, R.cl, R.n1, rfl, ?_⟩
        refine ⟨by show 2 ≤ sizeLine; decide, fun t1 ht1 => ?_⟩
        have T3 := same_new (o := .tup [.str "ask", .str "read"]) (fun a u (e : H2 a = some u) => e) ht1
        have g3 : (upd H2 t1 (.tup [.str "ask", .str "read"])) t1 = some (.tup [.str "ask", .str "read"]) := upd_same
        have q2 := T3 _ _ q2
        have S3 := same_trans (same_trans (same_trans S1 SG) S2) T3
        generalize upd H2 t1 (.tup [.str "ask", .str "read"]) = H3 at g3 q2 S3
        clear T3
        walk_at "rd"
        refine ⟨r, _, rfl, .inl ⟨sqL_same hrw S3, fun l hl0 => ?_⟩⟩
        have T4 := same_new (o := .tup (rows.map V.str)) (fun a u (e : H3 a = some u) => e) hl0
        have g4 : (upd H3 l (.tup (rows.map V.str))) l = some (.tup (rows.map V.str)) := upd_same
        have q2 := T4 _ _ q2
        have g3 := T4 _ _ g3
        have S4 := same_trans S3 T4
        generalize upd H3 l (.tup (rows.map V.str)) = H4 at g3 g4 q2 S4
        refine ⟨t1, l, _, _, rfl, rfl, SqT.of g3, SqT.of g4, by simp, by rw [List.length_map]; exact Nat.le_trans (m := 64) (show 2 + rows.length ≤ 64 by omega) (by decide), fun e => absurd e (by simp [hne]), fun _ z hz => ?_⟩
        have T5 := same_new (o := .tup ([V.str "ask", V.str "read"] ++ rows.map V.str)) (fun a u (e : H4 a = some u) => e) hz
        have g5 : (upd H4 z (.tup ([V.str "ask", V.str "read"] ++ rows.map V.str))) z = some (.tup (([("ask" : Str), ("read" : Str)] ++ rows).map V.str)) := upd_same
        have q2 := T5 _ _ q2
        have S5 := same_trans S4 T5
        generalize upd H4 z (.tup ([V.str "ask", V.str "read"] ++ rows.map V.str)) = H5 at g5 q2 S5
        have hsh := rk_shapedT fun x hx => drow_rk (hdr x hx)
        refine ⟨.tuple (datS ([("ask" : Str), ("read" : Str)] ++ rows)), .tuple (datS ([("ask" : Str), ("read" : Str)] ++ rows)), .tup (SqT.of q2) (dpAll_s _), .tup (SqT.of g5) (dpAll_s _), hsh, hsh, ?_⟩
        rw [eqvTS, decide_eq_true rfl]
        walk_at "rd"
        exact fin _ _ ⟨rfl, S5⟩
      · exact fin _ _ ⟨rfl, fun _ _ e => e⟩
end
end Ow

set_option Elab.async false
set_option linter.all false
set_option maxRecDepth 100000
set_option maxHeartbeats 1000000
/-! len(o) by an own __len__ -/
namespace OpX
open PySem PySem.Spec PyProof.Rows L2
section
variable {X : Cx} {k : Nat} {sp : Sp} {C : Addr}
theorem call_lenC (c : CalG X.prog X.w X.K X.mg X.base C "__len__" k sp) (hr : Room (k + 1) X.A) : CallR X (.builtin "len") (fun xs H Q => ∃ a dx fs, xs = [.ref a] ∧ H a = some (.ins C dx fs) ∧ sp [.ref a] H (fun v H' => ∃ n : Nat, v = .int (n : Nat) ∧ n < 2 ^ 62 ∧ Q (.int (n : Nat)) H') E0) := by
  intro pins s σ H xs us Q I r h
  obtain ⟨f, fd, ps, hs, hf, hfn, F, hb⟩ := c.ex
  obtain ⟨a, dx, fs, rfl, ha, hsp⟩ := h
  obtain ⟨u, rfl, rx⟩ := vals1 r
  obtain rfl : u = Value.ref a := rx
  obtain ⟨mA, J, _⟩ := ins_get I.hok ha
  obtain ⟨od, J, _⟩ := J.look
  obtain ⟨m, hF⟩ := I.fr
  refine PySem.W.len_K hF I.ok.mod.kin J hs hf (thn (run_in1 F hr hb pass0 I (us := [.ref a]) (vs := [.ref a]) (.cons rfl .nil) hsp) fun v s' z => ?_)
  obtain ⟨x, H', I', rx, n, rfl, hn, q⟩ := z
  obtain ⟨t, rfl⟩ := (show ∃ t, v = Value.int (n : Nat) t from rx)
  refine ⟨⟨by omega, by omega⟩, .int (n : Nat), H', I'.tok _, ⟨_, rfl⟩, q⟩
theorem pe_joinK {K : PySem.W.Frag} {o e : Expr} {to te : TE} {apos pos : Pos} (hK : X.K = K) (ho : PE X o to) (he : PE X e te) (hs : starEach [e] X.env = [(false, eval e X.env)] := by rfl) (hbase : attributeBase o "join" X.env (eval o X.env) = eval o X.env := by rfl) (hline : (apos.endLine == pos.line) = true := by rfl) :
    PE X (.Call (.Attribute o "join" apos) [e] [] pos) (tM1 (fun x xs H Q => ∃ a p, ∃ ys : List Str, x = .str a ∧ xs = [.ref p] ∧ (SqL K H p (ys.map V.str) ∨ SqT K H p (ys.map V.str)) ∧
      (ys.map (·.length)).sum + ys.length * a.length ≤ 16777216 ∧ Q (.str (Txt.join a ys)) H) to te) := by
  subst hK
  exact pe_join ho he hs hbase hline
end
end OpX

set_option Elab.async false
set_option linter.all false
set_option maxRecDepth 100000
set_option maxHeartbeats 4000000
/-! set(a list of texts) -/
namespace GsW
open PySem PySem.Spec PyProof.Rows L2 PpSet PySem.GsX
section
variable {P : Program} {w : World} {A : Around} {E : Value → Shared → Prop} {s : Shared}
/-- the members after some texts were added -/
noncomputable def addAll : List Key → List Str → List Key
  | ks, [] => ks
  | ks, x :: r => addAll (addL ks (Sum.inr x)) r
theorem addAll_len : ∀ (xs : List Str) (ks : List Key), (addAll ks xs).length ≤ ks.length + xs.length
  | [], ks => Nat.le_refl _
  | x :: r, ks => by
    have h := addAll_len r (addL ks (Sum.inr x))
    have h2 : (addL ks (Sum.inr x)).length ≤ ks.length + 1 := by
      by_cases z : (Sum.inr x : Key) ∈ ks
      · rw [addL_in z]; omega
      · rw [addL_new z]; exact Nat.le_refl _
    show (addAll (addL ks (Sum.inr x)) r).length ≤ _
    rw [List.length_cons]
    omega
/-- the loop that adds what an iterator gives -/
theorem more_texts {I : Addr} {fp wr : List Addr} {G : Array GenState → Array GenState → Prop} {n : Nat} {Pv : Nat → Value → Prop} {St : Nat → Shared → Prop} {R : Result → Shared → Prop}
    (W : WalksS P w A.in1 I fp wr G n Pv St) (S : Addr) (hSf : S ∉ fp) (xs : List Str) (hn : n = xs.length) (hval : ∀ i v, Pv i v → ∃ x t, xs[i]? = some x ∧ v = .str x t) :
    ∀ (k i : Nat) (ks : List Key) (s : Shared), n - i = k → i ≤ n → St i s → ks.length + k + 1 < scanBound → SetG P w s.heap S ks →
      (∀ s', Moved (S :: wr) G s s' → SetG P w s'.heap S (addAll ks (xs.drop i)) → R (.ok (.ret .none)) s') →
      codeAny (model P w) A (.builtin "set.update.loop" ⟨[.ref S, .ref I], []⟩) R s := by
  have hSw : S ∉ wr := fun h => hSf (W.sub _ h)
  have hsub : ∀ b ∈ wr, b ∈ S :: wr := fun b hb => List.mem_cons_of_mem _ hb
  intro k
  induction k with
  | zero =>
    intro i ks s hk hi st _ hS hR
    have e : xs.drop i = [] := List.drop_eq_nil_iff.mpr (by omega)
    rw [e] at hR
    have hin : i = n := by omega
    subst hin
    refine codeAny_builtin F.entry_set_update_loop ?_
    rw [Around.under_plainId F.plain_set_update_loop _]
    show wpAny _ A.in1 (pyNext (.ref I) >>= _) _ _ s
    refine wpAny_bind (W.done s _ _ st fun s' hm => ?_)
    show wpAny _ A.in1 (ret Value.none) _ _ s'
    exact wpAny_pure (hR s' (hm.mono hsub) (hS.at fun o e => hm.heap S o hSw e))
  | succ k ih =>
    intro i ks s hk hi st hb hS hR
    have hlt : i < n := by omega
    refine codeAny_builtin F.entry_set_update_loop ?_
    rw [Around.under_plainId F.plain_set_update_loop _]
    show wpAny _ A.in1 (pyNext (.ref I) >>= _) _ _ s
    refine wpAny_bind (W.item i s _ _ hlt st fun v s' hP st' hm => ?_)
    obtain ⟨x, t, hx, rfl⟩ := hval i v hP
    have hd : xs.drop i = x :: xs.drop (i + 1) := by
      obtain ⟨h1, h2⟩ := List.getElem?_eq_some_iff.mp hx
      rw [← h2]
      exact List.drop_eq_getElem_cons h1
    have hS' : SetG P w s'.heap S ks := hS.at fun o e => hm.heap S o hSw e
    have hl : (addL ks (Sum.inr x)).length ≤ ks.length + 1 := by
      by_cases z : (Sum.inr x : Key) ∈ ks
      · rw [addL_in z]; omega
      · rw [addL_new z]; exact Nat.le_refl _
    show wpAny _ A.in1 (holding [Value.str x t] (setAdd S (.str x t)) >>= _) _ _ s'
    refine wpAny_bind (wpAny_holding ?_)
    unfold setAdd
    refine wpAny_holding ?_
    refine wpAny_bind ((mixKind P w).pyHash (k := (Sum.inr x : Key)) ?_ ?_)
    · exact kV_is (show RelV (kV (Sum.inr x)) (.str x t) from ⟨t, rfl⟩)
    refine add_key (s := { s' with toks := s'.toks + 1 }) hS' ?_ ?_ (by omega) fun bb h' hsb hS2 => ?_
    · exact kV_is (show RelV (kV (Sum.inr x)) (.str x t) from ⟨t, rfl⟩)
    · rfl
    refine wpAny_pure ⟨plainId_quiet F.plain_set_update_loop _, ih (i + 1) _ _ (by omega) hlt (W.frame _ s' _ _ st' (Nat.le_succ _) fun b hb o e => ?_) (by omega) hS2 fun s'' hm'' hS'' => ?_⟩
    · rw [hsb.2 b (fun h : b = S => hSf (by rw [← h]; exact hb))]; exact e
    · rw [hd] at hR
      refine hR s'' (Moved.trans W.gtrans ((hm.mono hsub).then_heap (Nat.le_succ _) fun b o hb e => ?_) hm'') hS''
      rw [hsb.2 b (fun h : b = S => hb (by rw [h]; exact List.mem_cons_self))]; exact e
set_option maxHeartbeats 3200000 in
theorem call_set_texts {l : Addr} {items : Array Value} {xs : List Str} {Q : Value → Shared → Prop} (hh : A.handled = none) (hl : s.heap.IsList l items) (hi : StrsAre items.toList xs) (hb : xs.length + 1 < scanBound)
    (h : ∀ (h' : Heap) (tk : Nat), SetG P w h' s.heap.objs.size (addAll [] xs) → (∀ b o, s.heap.get? b = some o → h'.get? b = some o) → Q (.ref s.heap.objs.size) { s with heap := h', toks := tk }) :
    wpAny (model P w) A (call (.type "set") [.ref l]) Q E s := by
  have hsz : items.size = xs.length := by rw [← StrsAre.len_eq hi, Array.length_toList]
  obtain ⟨c, tl, hmro⟩ := F.called_set.mro
  have hmade := F.called_set.made
  have hsub := F.called_set.sub
  refine wpAny_call (codeAny_of_tree ?_)
  show wpAny _ _ (callAny (.type "set") _) _ _ _
  refine wpAny_pure ⟨Code.quiet_builtin _ (by decide +kernel), codeAny_builtin F.entry_type_call ?_⟩
  rw [Around.under_plain (weight_type_call_type "set" [.ref l] []) rfl]
  have h1 := F.called_set.notType
  have h2 := F.called_set.canCreate
  have hct := F.typeCall_set_1 (.ref l)
  repeat (any_goals (first | assumption | wp_step))
  refine codeAny_mono (code_set_led1 (.ref l) (E := E) (Q₁ := fun obj s₁ => obj = .ref s.heap.objs.size ∧ s₁ = { s with heap := s.heap.push { cls := .type "set", dict := none, data := .set #[] 0 (.fresh 0 0 (!w.params.followText "set-order")) } }) ⟨rfl, rfl⟩) fun r s₁ hr => ?_
  cases r with
  | error e => exact hr
  | ok fl =>
    cases fl with
    | ret obj =>
      obtain ⟨rfl, rfl⟩ := hr
      have hS : (s.heap.push { cls := .type "set", dict := none, data := .set #[] 0 (.fresh 0 0 (!w.params.followText "set-order")) }).get? s.heap.objs.size = some { cls := .type "set", dict := none, data := .set #[] 0 (.fresh 0 0 (!w.params.followText "set-order")) } := Heap.get?_push_size _ rfl
      have new : SetG P w (s.heap.push { cls := .type "set", dict := none, data := .set #[] 0 (.fresh 0 0 (!w.params.followText "set-order")) }) s.heap.objs.size [] := set_fresh
      have hT : Shared.TypeIs { s with heap := s.heap.push { cls := .type "set", dict := none, data := .set #[] 0 (.fresh 0 0 (!w.params.followText "set-order")) } } (.ref s.heap.objs.size) "set" := ⟨_, hS, rfl⟩
      have hli := F.called_set.init.lookup
      have hbi := F.called_set.init.bind (.ref s.heap.objs.size)
      repeat (any_goals (first | assumption | wp_step))
      refine codeAny_mono (codeAny_call_builtin (R := wants (fun r s₂ => r = .none ∧ ∃ h' tk, s₂ = { s with heap := h', toks := tk } ∧ SetG P w h' s.heap.objs.size (addAll [] xs) ∧ (∀ b o, s.heap.get? b = some o → h'.get? b = some o)) E) F.called_set.init.plain F.entry_set_init (check_set_init_1 hT ?_)) fun r₂ s₂ hr₂ => ?_
      · obtain ⟨ol, hol, hcl, nl, hdl⟩ := hl
        obtain ⟨ocls, odict, odata, oslots⟩ := ol
        simp only at hcl hdl
        subst hcl; subst hdl
        generalize hN : s.heap.push { cls := .type "set", dict := none, data := .set #[] 0 (.fresh 0 0 (!w.params.followText "set-order")) } = hN0 at hS new hT
        have hz0 : hN0.objs.size = s.heap.objs.size + 1 := by rw [← hN]; exact Heap.size_push ..
        have old : ∀ b o, s.heap.get? b = some o → hN0.get? b = some o := fun b o e => by rw [← hN]; exact Heap.get?_push_of_some _ e
        have hol' := old _ _ hol
        have hsls := F.sub_list_set
        have hslf := F.sub_list_frozenset
        have hne : (Value.type "list" == Value.type "dict") = false := by decide
        have hl1 : hN0.IsList l items := ⟨_, hol', rfl, nl, rfl⟩
        unfold Builtin.«set.__init__» noKeywords Builtin.Frozenset.updateFrom
        generalize hPI : pyIter = PI
        wp_walk
        subst hPI
        refine wpAny_pyIter_list hl1 ?_
        refine wpAny_bind (wpAny_runValue ?_)
        have hlS : l < s.heap.objs.size := Heap.lt_size hol
        have hh3 : A.in1.in1.in1.handled = none := by simp [hh]
        have hneI : l ≠ hN0.objs.size := by rw [hz0]; exact Nat.ne_of_lt (Nat.lt_succ_of_lt hlS)
        have hSf : s.heap.objs.size ∉ [hN0.objs.size, l] := by
          rw [hz0]; simp only [List.mem_cons, List.not_mem_nil, or_false, not_or]
          exact ⟨Nat.ne_of_lt (Nat.lt_succ_self _), Nat.ne_of_gt hlS⟩
        have hval : ∀ (i : Nat) (v : Value), items[i]? = some v → ∃ x t, xs[i]? = some x ∧ v = .str x t := fun i v hv => by
          have hi2 : i < xs.length := by rw [← hsz]; exact (Array.getElem?_eq_some_iff.mp hv).1
          obtain ⟨t, e⟩ := SS.strs_at hi i v (by rw [Array.getElem?_toList]; exact hv)
          refine ⟨xs[i], t, List.getElem?_eq_getElem hi2, ?_⟩
          rw [e, List.getD_eq_getElem?_getD, List.getElem?_eq_getElem hi2] <;> rfl
        refine more_texts ((Walks.list hh3 _ l hneI items).toS) s.heap.objs.size hSf xs hsz hval (items.size - 0) 0 [] _ rfl (Nat.zero_le _)
          ⟨⟨_, Heap.get?_push_size _ rfl, rfl, rfl⟩, (hl1.push _)⟩ (by rw [hsz]; show 0 + (xs.length - 0) + 1 < _; omega) (new.at fun o e => Heap.get?_push_of_some _ e) fun s' hm hS' => ?_
        obtain ⟨h', g', d', tk', os'⟩ := s'
        have eg : g' = s.gens := hm.gens
        have ed : d' = s.drawn := hm.drawn
        have eo : os' = s.os := hm.os
        subst eg; subst ed; subst eo
        show wpAny _ _ _ _ _ _
        refine wpAny_pure ?_
        show wpAny _ _ (ret Value.none) _ _ _
        refine wpAny_pure ⟨rfl, h', tk', rfl, hS', fun b o e => ?_⟩
        have hb0 : b < s.heap.objs.size := Heap.lt_size e
        have hb1 : b ≠ s.heap.objs.size := Nat.ne_of_lt hb0
        have hb2 : b ≠ hN0.objs.size := by rw [hz0]; exact Nat.ne_of_lt (Nat.lt_succ_of_lt hb0)
        exact hm.heap b o (by simp only [List.mem_cons, List.mem_singleton, List.not_mem_nil, or_false, not_or]; exact ⟨hb1, hb2⟩) (Heap.get?_push_of_some _ (old _ _ e))
      · cases r₂ with
        | error e => exact hr₂
        | ok fl₂ =>
          cases fl₂ with
          | ret r =>
            obtain ⟨rfl, h', tk, rfl, hS', hk'⟩ := hr₂
            repeat (any_goals (first | assumption | wp_step))
            exact h _ _ hS' hk'
          | _ => exact hr₂.elim
    | _ => exact hr.elim
end
/-- set(a list of texts), as a tracked thing -/
theorem ct_setT {X : Cx} (hc : X.calm = true) : CallR X (.type "set") (fun vs H Q => ∃ (a : Addr) (xs : List Str), vs = [.ref a] ∧ SqL X.K H a (xs.map V.str) ∧ xs.length < 64 ∧ ∀ p, H p = none → Q (.ref p) (upd H p (SetO X.prog X.w p (addAll [] xs)))) := by
  intro pins s σ H vs us Q I r ⟨a, xs, ev, ha, h64, q⟩
  subst ev
  rw [Vals.ref1 r]
  obtain ⟨its, rv, pl, hz⟩ := I.list ha
  refine call_set_texts (items := its.toArray) (I.ok.hd hc) pl.isList (strsAre_of rv) (Nat.lt_of_lt_of_le (m := 66) (by omega) (by decide)) fun h' tk hS hk => ?_
  have hn : H s.heap.objs.size = none := I.hok.fresh (Nat.le_refl _)
  exact ⟨.ref _, _, I.laid (t' := tk) (o := SetO X.prog X.w s.heap.objs.size (addAll [] xs)) hk (Nat.le_refl _) (setO_ok hS), rfl, q _ hn⟩
theorem addAll_mem : ∀ {xs : List Str} {ks : List Str}, ks.Nodup → ∃ ys : List Str, addAll (ks.map Sum.inr) xs = ys.map Sum.inr ∧ ys.Nodup ∧ ∀ z, z ∈ ys ↔ z ∈ ks ∨ z ∈ xs
  | [], ks, hn => ⟨ks, rfl, hn, fun z => by simp⟩
  | x :: r, ks, hn => by
    by_cases h : x ∈ ks
    · obtain ⟨ys, e, n, m⟩ := addAll_mem (xs := r) hn
      refine ⟨ys, ?_, n, fun z => ?_⟩
      · show addAll (addL (ks.map Sum.inr) (Sum.inr x)) r = _
        rw [addL_in (List.mem_map.mpr ⟨x, h, rfl⟩), e]
      · rw [m, List.mem_cons]
        refine ⟨fun z => z.imp id .inr, fun z => ?_⟩
        rcases z with z | z | z
        · exact .inl z
        · rw [z]; exact .inl h
        · exact .inr z
    · obtain ⟨ys, e, n, m⟩ := addAll_mem (xs := r) (ks := x :: ks) (List.nodup_cons.mpr ⟨h, hn⟩)
      refine ⟨ys, ?_, n, fun z => ?_⟩
      · show addAll (addL (ks.map Sum.inr) (Sum.inr x)) r = _
        rw [addL_new (fun q => by
          obtain ⟨y, hy, e⟩ := List.mem_map.mp q
          cases e
          exact h hy)]
        exact e
      · rw [m, List.mem_cons, List.mem_cons]
        exact ⟨fun q => q.elim (fun q => q.elim (fun e => .inr (.inl e)) .inl) fun q => .inr (.inr q), fun q => q.elim (fun q => .inl (.inr q)) fun q => q.elim (fun e => .inl (.inl e)) .inr⟩
end GsW

set_option Elab.async false
set_option linter.all false
set_option maxRecDepth 100000
set_option maxHeartbeats 2000000
/-! len(a set of texts) -/
namespace GsY
open PySem PySem.Spec PyProof.Rows L2 PySem.GsX
theorem cr_lenT {X : Cx} : CallR X (.builtin "len") (fun vs H Q => ∃ (a : Addr) (ks : List Key), vs = [.ref a] ∧ H a = some (SetO X.prog X.w a ks) ∧ ks.length < 64 ∧ Q (.int (ks.length : Nat)) H) := by
  intro pins s σ H vs us Q I r ⟨a, ks, ev, ha, h64, q⟩
  subst ev
  rw [Vals.ref1 r]
  obtain ⟨o, es, ep, t, ho, hx, hd, ⟨l, hp, hl⟩, _, hb, hf, _⟩ := setO_at I ha
  have hn : es.size = ks.length := by rw [← hp.length_eq, ← Ow.paired_len hl, Array.length_toList]
  refine call_len_set ho hx hd hf (by rw [hn]; omega) ⟨.int (ks.length : Nat), H, I.tok _, ⟨_, by rw [hn]⟩, q⟩
end GsY

set_option Elab.async false
set_option linter.all false
set_option maxRecDepth 100000
set_option maxHeartbeats 4000000
namespace Ow
open PySem PySem.Spec PyProof.Rows L2 Fn ErX
local macro_rules | `(tactic| walk_at "rd") => `(tactic| repeat (first | (refine ⟨_, rfl, ?_⟩) | (refine ⟨_, _, rfl, rfl, ?_⟩) | (refine ⟨rfl, ?_⟩) | (refine ⟨_, _, rfl, ?_⟩) | (refine Or.inl ⟨_, rfl, ?_⟩) | (refine ⟨(by first | (show (0 : Int) < (_ : Int); decide) | exact Or.inl ⟨by decide, by decide⟩ | exact Or.inr ⟨by decide, by decide⟩ | exact ⟨by decide, by decide⟩ | exact ⟨by decide, by decide, by decide⟩), ?_⟩)))
local macro_rules | `(tactic| walk_at "at") => `(tactic| first | assumption | exact upd_same | exact at_new (by assumption) | (refine at_same (by assumption) ?_; walk_at "at") | (refine at_old (by assumption) ?_ ?_; (focus walk_at "ne"); walk_at "at") | (refine at_upd ?_ ?_; (focus walk_at "ne"); walk_at "at") | (refine at_stay (by assumption) ?_ ?_; (focus walk_at "ne"); walk_at "at"))
local macro_rules | `(tactic| walk_at "ex") => `(tactic| first | exact ⟨_, by assumption⟩ | exact ⟨_, upd_same⟩ | exact ⟨_, at_new (by assumption)⟩ | (refine ex_same (by assumption) ?_; walk_at "ex") | (refine ex_old (by assumption) ?_; walk_at "ex") | (refine ex_upd ?_; walk_at "ex") | (refine ex_stay (by assumption) ?_ ?_; (focus walk_at "ne"); walk_at "ex"))
local macro_rules | `(tactic| walk_at "ne") => `(tactic| first | assumption | (refine Ne.symm ?_; assumption) | (refine ne_fx (by assumption) ?_; walk_at "ex") | (refine Ne.symm (ne_fx (by assumption) ?_); walk_at "ex") | (refine ne_kx (by assumption) ?_; (apply Exists.intro; refine And.intro ?_ ?_; (focus walk_at "at"); (intro z; cases z))) | (refine Ne.symm (ne_kx (by assumption) ?_); (apply Exists.intro; refine And.intro ?_ ?_; (focus walk_at "at"); (intro z; cases z))))
theorem FnIn.stay {C : Addr} {H H' : Hp} {p b : Addr} {rs ys : List Str} {dx : Addr} {n : Nat} (h : FnIn C H p rs ys dx) (B : BagAt H b n) (hne : rs ≠ []) (s : Stay b H H') : FnIn C H' p rs ys dx := by
  obtain ⟨a1, b1, c1, h1, h2, h3, h4⟩ := h
  obtain ⟨d, m, k, e, _⟩ := B
  refine ⟨a1, b1, c1, s _ _ (fun z => ?_) h1, s _ _ (fun z => ?_) h2, s _ _ (fun z => ?_) h3, s _ _ (fun z => ?_) h4⟩
  · rw [z, e] at h1; cases h1
  · rw [z, e] at h2; cases h2
  · rw [z, e] at h3
    have h0 := bk_at rs (n := rs.length) (k := 0) (List.length_pos_iff.mpr hne)
    have h3 : [V.int d, V.int m, V.int k] = bkAt rs rs.length := HO.lst.inj (Option.some.inj h3)
    rw [← h3] at h0
    cases h0
  · rw [z, e] at h4; cases h4
section
variable {P : Program} {w : World} {K : PySem.W.Frag} {mg : Str → Option Value} {base : Heap} {C CB CT : Addr}
abbrev s_law : Stmt := top 41
theorem sc_law : FnScope ["script", "at", "bag", "rows", "function", "lists", "place", "more", "other", "row"] ["script"] (defScope s_law) := ⟨rfl, rfl, rfl, by decide +kernel, rfl, by decide +kernel, by decide +kernel⟩
theorem ok_law {f : Addr} {fd : FuncData} (F : Fun K "law" "law" s_law f fd) (T : Txt mg) (n_set : mg "set" = none) (n_str : mg "str" = none) (R : FnK K C) (RT : FnT K C) (N : OpX.NeC K C) (hC : mg "Function" = some (.ref C)) (c_bag : Cal P w K mg base "_law_bag" 1 (spBag K)) (c_take : Cal P w K mg base "_law_take" 1 spTake) (c_pick : Cal P w K mg base "_law_of" 2 spPickV) (c_function : Cal P w K mg base "_law_function" 15 spFun) (c_lspaced : Cal P w K mg base "_law_spaced" 2 (spLSpaced K)) (c_mk : MakX P w K mg base "Function" C 5 (spFInit C CB CT)) (c_of : ClmX P w K mg base C "of" 7 (spOfF C CB)) (c_more : Cal P w K mg base "_law_more" 9 (spLMore K C)) (c_len : OpX.CalG P w K mg base C "__len__" 1 (spFLen C)) (c_str : OpX.CalG P w K mg base C "__str__" 1 (spFStr C)) (c_eq : OpX.CalE P w K mg base C 1 (spFEq2 C)) : FnOk P w K mg base CX0 16 f fd ["script"] (spLaw K) := by
  refine F.ok sc_law (fun vs H Q E h => ?_) (fun cdv A outer s H vs Q E hr h => ?_)
  · obtain ⟨a, ns, rfl, _⟩ := h
    rfl
  · obtain ⟨a, ns, rfl, hS, hl, k⟩ := h
    have hu := hu_of hr
    refine ⟨_, (pss_cons (ps_for PassesOwn.never rfl (pi_range1 rfl T.n_range (pa_cons (pe_callB (call_max2 rfl) (by rfl) T.n_max (by decide +kernel) (pa_cons pe_int (pa_cons (pe_callB (call_min2 rfl) (by rfl) T.n_min (by decide +kernel) (pa_cons pe_int (pa_cons (pe_callB call_len_seq (by rfl) T.n_len (by decide +kernel) (pa_cons (pv 0) pa_nil)) pa_nil))) pa_nil))) pa_nil)) (pg_name (i := 1) sc_law.nd rfl (Or.inl rfl))
      (pss_cons (ps_set (i := 2) sc_law.nd rfl (Or.inl rfl) (pe_cal c_bag (hr.mono (by decide)) (pa_cons (pv 0) (pa_cons (pv 1) pa_nil))))
      (pss_cons (ps_set (i := 3) sc_law.nd rfl (Or.inl rfl) (pe_cal c_function (hr.mono (by decide)) (pa_cons (pv 2) (pa_cons (pe_cal c_pick (hr.mono (by decide)) (pa_cons (pv 2) (pa_cons (pe_lst (pa_cons pe_int (pa_cons pe_int (pa_cons pe_int pa_nil)))) pa_nil))) pa_nil))))
      (pss_cons (ps_set (i := 4) sc_law.nd rfl (Or.inl rfl) (pe_makX c_mk (hr.mono (by decide)) at_no (by exact (pa_cons (pe_cal c_lspaced (hr.mono (by decide)) (pa_cons (pv 2) (pa_cons (pv 3) pa_nil))) pa_nil))))
      (pss_cons (ps_set (i := 5) sc_law.nd rfl (Or.inl rfl) (pe_callB (GsY.cr_sortedT (by rfl)) (by rfl) T.n_sorted (by decide +kernel) (pa_cons (pe_callTy (GsW.ct_setT (by rfl)) (by rfl) T.n_set (by decide +kernel) (pa_cons (pe_lc (own := [("row", 9)]) (g := gName 9) (by rfl) sc_law.nd (pi_list (pv 3)) (blkOk_by (own := [("row", 9)]) (N := ["script", "at", "bag", "rows", "function", "lists", "place", "more", "other", "row"]) (sc := defScope s_law) (by decide +kernel)) (fun _ _ _ _ _ => (pg_name (i := 9) sc_law.nd rfl (Or.inl rfl))) (fun _ _ _ _ _ => (pts_one (pt_cmpR op_eq (pe_slice sl_str (pv 9) po_none (po_some pe_int)) pe_str (nomark _)))) (fun _ _ _ _ _ => (pe_slice sl_str (pv 9) (po_some pe_int) po_none))) pa_nil)) pa_nil)))
      (pss_cons (ps_if (PW.pt (pw_or (pt_cmpR (op_neD hr.units) (pe_fld (pv 4) rfl) (pe_callTy call_tuple_of (by rfl) T.n_tuple (by decide +kernel) (pa_cons (pv 3) pa_nil)) (nomark _)) (pw_or1 (pt_not (pt_val (pe_callB call_isi (by rfl) T.n_isinstance (by decide +kernel) (pa_cons (pe_fld (pv 4) rfl) (pa_cons (pe_bltn (v := .ty "tuple") rfl T.n_tuple rfl rfl) pa_nil)))))))) (pss_one (ps_ret pe_bl)) pss_nil)
      (pss_cons (ps_if (PW.pt (pw_or (pt_cmpR (op_neD hr.units) (pe_fld (pv 4) rfl) (pe_callTy call_tuple_of (by rfl) T.n_tuple (by decide +kernel) (pa_cons (pv 5) pa_nil)) (nomark _)) (pw_or1 (pt_not (pt_val (pe_callB call_isi (by rfl) T.n_isinstance (by decide +kernel) (pa_cons (pe_fld (pv 4) rfl) (pa_cons (pe_bltn (v := .ty "tuple") rfl T.n_tuple rfl rfl) pa_nil)))))))) (pss_one (ps_ret pe_bl)) pss_nil)
      (pss_cons (ps_if (PW.pt (pw_or (pt_cmpR op_ne (pe_callB (OpX.call_lenC c_len (hr.mono (by decide))) (by rfl) T.n_len (by decide +kernel) (pa_cons (pv 4) pa_nil)) (pe_callB call_len_seq (by rfl) T.n_len (by decide +kernel) (pa_cons (pv 3) pa_nil)) (nomark _)) (pw_or1 (pt_cmpR op_ne (pe_callTy (OpX.call_strC c_str (hr.mono (by decide))) (by rfl) T.n_str (by decide +kernel) (pa_cons (pv 4) pa_nil)) (pe_join pe_str (pv 3)) (nomark _))))) (pss_one (ps_ret pe_bl)) pss_nil)
      (pss_cons (ps_if (PW.pt (pw_or (pt_not (pt_cmpR (OpX.op_eqC c_eq (hr.mono (by decide))) (pv 4) (pe_makX c_mk (hr.mono (by decide)) at_no (by exact (pa_cons (pe_join pe_str (pv 3)) pa_nil))) (nomark _))) (pw_or1 (pt_cmpR (OpX.op_neC c_eq N (hr.mono (by decide))) (pv 4) (pe_makX c_mk (hr.mono (by decide)) at_no (by exact (pa_cons (pe_callTy (OpX.call_strC c_str (hr.mono (by decide))) (by rfl) T.n_str (by decide +kernel) (pa_cons (pv 4) pa_nil)) pa_nil))) (nomark _))))) (pss_one (ps_ret pe_bl)) pss_nil)
      (pss_cons (ps_if (PW.pt (pw_or (pt_cmpR (OpX.op_eqC c_eq (hr.mono (by decide))) (pv 4) (pe_callTy call_tuple_of (by rfl) T.n_tuple (by decide +kernel) (pa_cons (pv 3) pa_nil)) (nomark _)) (pw_or1 (pt_cmpR (OpX.op_eqC c_eq (hr.mono (by decide))) (pv 4) (pe_callTy (OpX.call_strC c_str (hr.mono (by decide))) (by rfl) T.n_str (by decide +kernel) (pa_cons (pv 4) pa_nil)) (nomark _))))) (pss_one (ps_ret pe_bl)) pss_nil)
      (pss_cons (ps_set (i := 6) sc_law.nd rfl (Or.inl rfl) (pe_cal c_take (hr.mono (by decide)) (pa_cons (pv 2) (pa_cons (pe_callB call_len_seq (by rfl) T.n_len (by decide +kernel) (pa_cons (pv 3) pa_nil)) pa_nil))))
      (pss_cons (ps_if (pt_cmpR op_lt (pe_callB call_len_seq (by rfl) T.n_len (by decide +kernel) (pa_cons (pv 3) pa_nil)) pe_int (nomark _)) (pss_cons (ps_set (i := 7) sc_law.nd rfl (Or.inl rfl) (pe_makX c_mk (hr.mono (by decide)) at_no (by exact (pa_cons (pe_join pe_str (pe_op op_cat (pe_op op_cat (pe_slice sl_list (pv 3) po_none (po_some (pv 6))) (pe_lst (pa_cons pe_str pa_nil))) (pe_slice sl_list (pv 3) (po_some (pv 6)) po_none))) pa_nil))))
      (pss_one (ps_if (PW.pt (pw_or (pt_cmpR (OpX.op_eqC c_eq (hr.mono (by decide))) (pv 7) (pv 4) (nomark _)) (pw_or (pt_cmpR op_ne (pe_callB (OpX.call_lenC c_len (hr.mono (by decide))) (by rfl) T.n_len (by decide +kernel) (pa_cons (pv 7) pa_nil)) (pe_op op_add (pe_callB call_len_seq (by rfl) T.n_len (by decide +kernel) (pa_cons (pv 3) pa_nil)) pe_int) (nomark _)) (pw_or1 (pt_cmpR op_ne (pe_ix ix_tup (pe_fld (pv 7) rfl) (pv 6) (fun _ _ => rfl)) pe_str (nomark _)))))) (pss_one (ps_ret pe_bl)) pss_nil))) pss_nil)
      (pss_cons (ps_if (pt_cmpR op_in_seq (pe_ix ix_list (pv 3) (pv 6) (fun _ _ => rfl)) (pe_lst (pa_cons pe_str (pa_cons pe_str (pa_cons pe_str (pa_cons pe_str pa_nil))))) rfl) (pss_cons (ps_set (i := 8) sc_law.nd rfl (Or.inl rfl) (pe_makX c_mk (hr.mono (by decide)) at_no (by exact (pa_cons (pe_join pe_str (pe_op op_cat (pe_op op_cat (pe_slice sl_list (pv 3) po_none (po_some (pv 6))) (pe_lst (pa_cons pe_str pa_nil))) (pe_slice sl_list (pv 3) (po_some (pe_op op_add (pv 6) pe_int)) po_none))) pa_nil))))
      (pss_one (ps_if (PW.pt (pw_or (pt_cmpR (OpX.op_eqC c_eq (hr.mono (by decide))) (pv 8) (pv 4) (nomark _)) (pw_or1 (pt_not (pt_cmpR (OpX.op_neC c_eq N (hr.mono (by decide))) (pv 8) (pv 4) (nomark _)))))) (pss_one (ps_ret pe_bl)) pss_nil))) pss_nil)
      (pss_cons (ps_if (pt_cmpR (op_neD hr.units) (pe_fld (pe_clmX c_of (hr.mono (by decide)) at_no (pe_glob (v := .ref C) rfl hC rfl) (pa_cons pe_str (pa_cons pe_str (pa_cons pe_str (pa_cons pe_str (pa_cons pe_str pa_nil)))))) rfl) (pe_tup (pa_cons pe_str (pa_cons pe_str (pa_cons pe_str (pa_cons pe_str (pa_cons pe_str pa_nil)))))) (nomark _)) (pss_one (ps_ret pe_bl)) pss_nil)
      (pss_cons (ps_if (PW.pt (pw_or (pt_not (pt_cmpR (OpX.op_eqC c_eq (hr.mono (by decide))) (pe_clmX c_of (hr.mono (by decide)) at_no (pe_glob (v := .ref C) rfl hC rfl) (pa_cons (pe_callTy (OpX.call_strC c_str (hr.mono (by decide))) (by rfl) T.n_str (by decide +kernel) (pa_cons (pv 4) pa_nil)) pa_nil)) (pv 4) (nomark _))) (pw_or1 (pt_cmpR (op_neD hr.units) (pe_fld (pe_clmX c_of (hr.mono (by decide)) at_no (pe_glob (v := .ref C) rfl hC rfl) (pa_cons pe_str pa_nil)) rfl) (pe_tup (pa_cons pe_str pa_nil)) (nomark _))))) (pss_one (ps_ret pe_bl)) pss_nil)
      (pss_one (ps_if (pt_not (pt_val (pe_cal c_more (hr.mono (by decide)) (pa_cons (pv 4) (pa_cons (pv 3) pa_nil))))) (pss_one (ps_ret pe_bl)) pss_nil)))))))))))))))))
      (pss_one (ps_ret pe_bl))), ?_⟩
    walk_at "rd"
    refine ⟨a, _, rfl, .inl hS, ?_⟩
    rw [List.length_map]
    walk_at "rd"
    refine ⟨?_, ?_, ?_⟩
    · have hm : -(2 ^ 62) ≤ (if (if (ns.length : Int) < 6 then (ns.length : Int) else 6) > 1 then (if (ns.length : Int) < 6 then (ns.length : Int) else 6) else 1) := by
        split <;> split <;> omega
      exact hm
    · have hm : (if (if (ns.length : Int) < 6 then (ns.length : Int) else 6) > 1 then (if (ns.length : Int) < 6 then (ns.length : Int) else 6) else 1) < 2 ^ 62 := by
        split <;> split <;> omega
      exact hm
    have hm : (if (if (ns.length : Int) < 6 then (ns.length : Int) else 6) > 1 then (if (ns.length : Int) < 6 then (ns.length : Int) else 6) else 1).toNat ≤ 6 := by
      split <;> split <;> omega
    refine for_range (lo := 0) (fun i σ H' => ∃ (o1 o2 o3 o4 o5 o6 o7 o8 o9 : Option V), σ = [some (.ref a), o1, o2, o3, o4, o5, o6, o7, o8, o9] ∧ Same H H') ⟨none, none, none, none, none, none, none, none, none, rfl, fun _ _ e => e⟩ ?_ ?_
    · rintro i σ H' hi ⟨o1, o2, o3, o4, o5, o6, o7, o8, o9, rfl, S⟩
      have hi8 : i < 6 := Nat.lt_of_lt_of_le hi hm
      walk_at "rd"
      refine ⟨a, ns, i, by rw [Int.zero_add], S.seq hS, hl, by omega, fun b H1 hb hB1 S1 => ?_⟩
      have hb0 : H b = none := none_back S hb
      have SH := same_trans S S1
      clear S S1 hb
      walk_at "rd"
      refine ⟨by show 3 ≤ sizeLine; decide, fun z hz => ?_⟩
      have T2 := same_new (o := .lst [V.int 6, V.int 12, V.int 24]) (fun a u (e : H1 a = some u) => e) hz
      refine ⟨b, z, 0, _, rfl, hB1.same T2, by omega, (show (upd H1 z (.lst [V.int 6, V.int 12, V.int 24])) z = some (.lst [V.int 6, V.int 12, V.int 24]) from upd_same), nb_of hB1 hz, by show 0 < 3; decide, by show 3 ≤ 64; decide, fun j v H2 hj B2 S2 => ?_⟩
      have SH := same_stay (same_trans SH T2) hb0 S2
      obtain ⟨most, rfl, hm0, hm24⟩ : ∃ most : Nat, v = .int (most : Nat) ∧ 0 < most ∧ most ≤ 24 := by
        match j, hj with
        | 0, hj => cases hj; exact ⟨6, rfl, by decide, by decide⟩
        | 1, hj => cases hj; exact ⟨12, rfl, by decide, by decide⟩
        | 2, hj => cases hj; exact ⟨24, rfl, by decide, by decide⟩
        | j + 3, hj => cases hj
      clear hj T2 hz S2 hB1
      refine ⟨b, _, most, rfl, B2, by omega, hm0, hm24, fun r rows nms m H3 hk hDs hns hne hlen hm3 hr0 fr B3 S3 => ?_⟩
      have SH := same_stay SH hb0 S3
      clear S3 B2
      have hrk : ∀ x ∈ rows, RK x := fun x hx => drow_rk (hDs x hx)
      have hgd2 := keeps_good hk
      have hlen24 : rows.length ≤ 24 := by omega
      have hmb : m ≤ 100000000 := by omega
      clear hm0 hm3 hlen hm24
      have rb : r ≠ b := fun z => by
        obtain ⟨d1, m1, k1, e1, _⟩ := B3
        rw [z, e1] at fr
        have := HO.lst.inj (Option.some.inj fr)
        cases rows with
        | nil => exact hne rfl
        | cons y l => cases this
      walk_at "rd"
      refine ⟨b, r, m, rows, nms, rfl, B3, by omega, fr, rb, hDs, hne, hlen24, fun ts H4 hts B4 S4 => ?_⟩
      have fr := S4 _ _ rb fr
      have SH := same_stay SH hb0 S4
      clear S4 B3
      obtain ⟨et, rt⟩ := spds_rows hDs hne hts
      obtain ⟨lt1, lt2⟩ := spds_len hts hlen24
      intro x dx hx hdx ne
      refine mk_ok hx hdx ne hDs hns hlen24 hgd2 et lt1 (fun r' hr' => rt r' (by rw [spds_split hDs hne hts] at hr'; exact hr')) (fun ys H5 hF hL S5 => ?_)
      have fr := S5 _ _ fr
      have B5 := B4.same S5
      have SH := same_trans SH S5
      clear S5 hx B4 hdx ne
      refine ⟨rfl, ?_⟩
      dsimp only [gName]
      refine seq_cutS (fun σ' H' => ∃ (q : Addr), σ' = [some (.ref a), some (.int (0 + (i : Nat))), some (.ref b), some (.ref r), some (.ref x), some (.ref q), o6, o7, o8, o9] ∧ H' q = some (.lst (ys.map V.str)) ∧ H' r = some (.lst (rows.map V.str)) ∧ FnIn C H' x rows ys dx ∧ BagAt H' b (m + 4 * rows.length) ∧ Same H H') (fun σ' H8 hc => ?_) (fun fin => ?_)
      · obtain ⟨q, rfl, gq, fr, hF, B8, SH⟩ := hc
        clear B5
        have hsr := rk_shapedT hrk
        have hsl := lists_shaped hDs hL
        obtain ⟨a1, b1, c1, p1, q1, _, l1⟩ := id hF
        walk_at "rd"
        refine ⟨x, C, dx, _, .ref a1, rfl, p1, R.cl, R.n1, rfl, ?_⟩
        walk_at "rd"
        refine ⟨r, _, rfl, .inl ⟨SqL.of fr, fun l hl0 => ?_⟩⟩
        have T9 := same_new (o := .tup (rows.map V.str)) (fun a u (e : H8 a = some u) => e) hl0
        have g9 : (upd H8 l (.tup (rows.map V.str))) l = some (.tup (rows.map V.str)) := upd_same
        generalize upd H8 l (.tup (rows.map V.str)) = H9 at T9 g9
        have fr := T9 _ _ fr
        have gq := T9 _ _ gq
        have hF := hF.same T9
        have B8 := B8.same T9
        have SH := same_trans SH T9
        have p1 := T9 _ _ p1
        have q1 := T9 _ _ q1
        have l1 := T9 _ _ l1
        clear T9 hl0
        refine ⟨.tuple (datS rows), .tuple (datS rows), .tup (SqT.of q1) (dpAll_s _), .tup (SqT.of g9) (dpAll_s _), hsr, hsr, ?_⟩
        rw [eqvTS, decide_eq_true rfl]
        walk_at "rd"
        refine ⟨x, C, dx, _, .ref a1, rfl, p1, R.cl, R.n1, rfl, ?_⟩
        walk_at "rd"
        refine ⟨_, _, _, _, true, rfl, .ty "tuple", .base (.tup q1), kit_same _, ?_⟩
        walk_at "rd"
        refine ⟨x, C, dx, _, .ref c1, rfl, p1, R.cl, R.n3, rfl, ?_⟩
        walk_at "rd"
        refine ⟨q, _, rfl, .inl ⟨SqL.of gq, fun l hl0 => ?_⟩⟩
        have T10 := same_new (o := .tup (ys.map V.str)) (fun a u (e : H9 a = some u) => e) hl0
        have g10 : (upd H9 l (.tup (ys.map V.str))) l = some (.tup (ys.map V.str)) := upd_same
        generalize upd H9 l (.tup (ys.map V.str)) = H10 at T10 g10
        have fr := T10 _ _ fr
        have gq := T10 _ _ gq
        have hF := hF.same T10
        have B8 := B8.same T10
        have SH := same_trans SH T10
        have p1 := T10 _ _ p1
        have q1 := T10 _ _ q1
        have l1 := T10 _ _ l1
        clear T10 hl0 g9
        refine ⟨.tuple (datS ys), .tuple (datS ys), .tup (SqT.of l1) (dpAll_s _), .tup (SqT.of g10) (dpAll_s _), hsl, hsl, ?_⟩
        rw [eqvTS, decide_eq_true rfl]
        walk_at "rd"
        refine ⟨x, C, dx, _, .ref c1, rfl, p1, R.cl, R.n3, rfl, ?_⟩
        walk_at "rd"
        refine ⟨_, _, _, _, true, rfl, .ty "tuple", .base (.tup l1), kit_same _, ?_⟩
        clear g10
        walk_at "rd"
        refine ⟨x, dx, _, rfl, p1, x, dx, _, _, rfl, hF, fun H11 S11 => ⟨_, rfl, Nat.lt_of_le_of_lt hlen24 (by decide), ?_⟩⟩
        have fr := S11 _ _ fr
        have gq := S11 _ _ gq
        have hF := hF.same S11
        have B8 := B8.same S11
        have SH := same_trans SH S11
        have p1 := S11 _ _ p1
        clear S11 q1 l1
        walk_at "rd"
        refine ⟨r, _, rfl, .inl (SqL.of fr), ?_⟩
        rw [List.length_map]
        walk_at "rd"
        have n0 : ∀ v : V, ¬ (!decide (v = v)) = true := fun v h => by
          rw [decide_eq_true rfl] at h
          cases h
        obtain ⟨n1, n2⟩ := rk_len hrk (by omega)
        clear gq
        refine ite2 (fun e => (n0 _ e).elim) (fun _ => ?_)
        walk_at "rd"
        refine ⟨x, dx, _, rfl, p1, x, dx, rows, ys, rfl, hF, hrk, hlen24, fun H12 S12 => ⟨_, rfl, ?_⟩⟩
        have fr := S12 _ _ fr
        have hF := hF.same S12
        have B8 := B8.same S12
        have SH := same_trans SH S12
        have p1 := S12 _ _ p1
        clear S12
        refine ⟨⟨_, rfl⟩, ?_⟩
        walk_at "rd"
        refine ⟨_, r, rows, rfl, rfl, .inl (SqL.of fr), n2, ?_⟩
        walk_at "rd"
        refine ite2 (fun e => (n0 _ e).elim) (fun _ => ?_)
        walk_at "rd"
        refine ⟨⟨_, rfl⟩, ?_⟩
        walk_at "rd"
        refine ⟨_, r, rows, rfl, rfl, .inl (SqL.of fr), n2, ?_⟩
        intro x2 dx2 hx2 hdx2 ne2
        refine mk_join hx2 hdx2 ne2 hDs hns hne hlen24 hgd2 fun ys2 H13 hG hL2 S13 => ⟨rfl, ?_⟩
        have fr := S13 _ _ fr
        have hF := hF.same S13
        have B8 := B8.same S13
        have SH := same_trans SH S13
        have p1 := S13 _ _ p1
        clear S13 hx2 hdx2 ne2 hL2
        obtain ⟨a2, b2, c2, p2, _⟩ := id hG
        refine ⟨x, dx, _, rfl, p1, .inr (.inr (.inl ⟨x2, dx2, _, rfl, p2⟩)), x, dx, rows, ys, .ref x2, rfl, hF, .inr ⟨x2, dx2, rows, ys2, rfl, hG, hrk, hrk, fun H14 S14 => ?_⟩⟩
        rw [decide_eq_true rfl]
        have fr := S14 _ _ fr
        have hF := hF.same S14
        have B8 := B8.same S14
        have SH := same_trans SH S14
        have p1 := S14 _ _ p1
        clear S14 p2 hG
        walk_at "rd"
        refine ⟨x, dx, _, rfl, p1, x, dx, rows, ys, rfl, hF, hrk, hlen24, fun H15 S15 => ⟨_, rfl, ?_⟩⟩
        have fr := S15 _ _ fr
        have hF := hF.same S15
        have B8 := B8.same S15
        have SH := same_trans SH S15
        have p1 := S15 _ _ p1
        clear S15
        intro x2 dx2 hx2 hdx2 ne2
        refine mk_join hx2 hdx2 ne2 hDs hns hne hlen24 hgd2 fun ys2 H16 hG hL2 S16 => ⟨rfl, ?_⟩
        have fr := S16 _ _ fr
        have hF := hF.same S16
        have B8 := B8.same S16
        have SH := same_trans SH S16
        have p1 := S16 _ _ p1
        clear S16 hx2 hdx2 ne2 hL2
        obtain ⟨a2, b2, c2, p2, _⟩ := id hG
        refine ⟨x, dx, _, rfl, p1, .inr (.inr (.inl ⟨x2, dx2, _, rfl, p2⟩)), x, dx, rows, ys, .ref x2, rfl, hF, .inr ⟨x2, dx2, rows, ys2, rfl, hG, hrk, hrk, fun H17 S17 => ⟨_, rfl, ?_⟩⟩⟩
        rw [decide_eq_true rfl]
        have fr := S17 _ _ fr
        have hF := hF.same S17
        have B8 := B8.same S17
        have SH := same_trans SH S17
        have p1 := S17 _ _ p1
        clear S17 p2 hG
        walk_at "rd"
        refine ⟨r, _, rfl, .inl ⟨SqL.of fr, fun l hl0 => ?_⟩⟩
        have T18 := same_new (o := .tup (rows.map V.str)) (fun a u (e : H17 a = some u) => e) hl0
        have g18 : (upd H17 l (.tup (rows.map V.str))) l = some (.tup (rows.map V.str)) := upd_same
        generalize upd H17 l (.tup (rows.map V.str)) = H18 at T18 g18
        have fr := T18 _ _ fr
        have hF := hF.same T18
        have B8 := B8.same T18
        have SH := same_trans SH T18
        have p1 := T18 _ _ p1
        clear T18 hl0
        refine ⟨x, dx, _, rfl, p1, .inr (.inr (.inr ⟨l, _, rfl, g18⟩)), x, dx, rows, ys, .ref l, rfl, hF, .inl ⟨.inr ⟨l, _, rfl, g18⟩, ?_⟩⟩
        clear g18
        walk_at "rd"
        refine ⟨x, dx, _, rfl, p1, x, dx, rows, ys, rfl, hF, hrk, hlen24, fun H19 S19 => ⟨_, rfl, ?_⟩⟩
        have fr := S19 _ _ fr
        have hF := hF.same S19
        have B8 := B8.same S19
        have SH := same_trans SH S19
        have p1 := S19 _ _ p1
        clear S19
        refine ⟨x, dx, _, rfl, p1, .inr (.inl ⟨_, rfl⟩), x, dx, rows, ys, _, rfl, hF, .inl ⟨.inl ⟨_, rfl⟩, ?_⟩⟩
        have hpos : 0 < rows.length := List.length_pos_iff.mpr hne
        clear p1
        walk_at "rd"
        refine ⟨r, _, rfl, .inl (SqL.of fr), ?_⟩
        rw [List.length_map]
        walk_at "rd"
        refine ⟨b, _, _, rfl, B8, by omega, (by show (0 : Int) < (rows.length : Int); omega), (by show ((rows.length : Int)).natAbs < _; omega), fun pl H20 pl0 pl1 B20 S20 => ?_⟩
        have hF := FnIn.stay hF B8 hne S20
        have fr := S20 _ _ rb fr
        have SH := same_stay SH hb0 S20
        obtain ⟨pn, rfl⟩ := Int.eq_ofNat_of_zero_le pl0
        have hpn : pn < rows.length := by
          have pl1 : (pn : Int) < (rows.length : Int) := pl1
          omega
        clear S20 B20 B8 rb pl0 pl1 hb0
        dsimp only [gName]
        refine seq_cutS (fun σ' H' => ∃ (o7 : Option V), σ' = [some (.ref a), some (.int (0 + (i : Nat))), some (.ref b), some (.ref r), some (.ref x), some (.ref q), some (.int (pn : Nat)), o7, o8, o9] ∧ H' r = some (.lst (rows.map V.str)) ∧ FnIn C H' x rows ys dx ∧ Same H H') (fun σ' H21 hc => ?_) (fun fin => ?_)
        · obtain ⟨o7, rfl, fr, hF, SH⟩ := hc
          refine seq_cutS (fun σ' H' => ∃ (o8 : Option V), σ' = [some (.ref a), some (.int (0 + (i : Nat))), some (.ref b), some (.ref r), some (.ref x), some (.ref q), some (.int (pn : Nat)), o7, o8, o9] ∧ H' r = some (.lst (rows.map V.str)) ∧ FnIn C H' x rows ys dx ∧ Same H H') (fun σ' H22 hc => ?_) (fun fin => ?_)
          · obtain ⟨o8, rfl, fr, hF, SH⟩ := hc
            obtain ⟨xg, xe⟩ := ex_fun
            obtain ⟨xl, xs, xr⟩ := ex_len2
            obtain ⟨yg, ye⟩ := ret_fun
            have hsx : SeqAt.shaped (.tuple (datS EXR)) = true := by decide +kernel
            have hsy : SeqAt.shaped (.tuple (datS [("return" : Str)])) = true := by decide +kernel
            walk_at "rd"
            refine ⟨EXW, rfl, xs, fun G SG => of_any exr_drow (by decide) (by decide) xg xe xl exw_raw fun x2 dx2 ys2 H23 hx2 hG hL2 S23 => ?_⟩
            have S23 := same_trans SG S23
            have fr := S23 _ _ fr
            have hF := hF.same S23
            have SH := same_trans SH S23
            clear S23 SG hx2 hL2
            obtain ⟨a2, b2, c2, p2, q2, _⟩ := id hG
            refine ⟨x2, C, dx2, _, .ref a2, rfl, p2, R.cl, R.n1, rfl, ?_⟩
            refine ⟨by show 5 ≤ sizeLine; decide, fun t1 ht1 => ?_⟩
            have T24 := same_new (o := .tup (EXR.map V.str)) (fun a u (e : H23 a = some u) => e) ht1
            refine ⟨.tuple (datS EXR), .tuple (datS EXR), .tup (SqT.of (T24 _ _ q2)) (dpAll_s _), .tup (SqT.of (show (upd H23 t1 (.tup (EXR.map V.str))) t1 = some (.tup (EXR.map V.str)) from upd_same)) (dpAll_s _), hsx, hsx, ?_⟩
            rw [eqvTS, decide_eq_true rfl]
            have fr := T24 _ _ fr
            have hF := hF.same T24
            have SH := same_trans SH T24
            generalize eH : upd H23 t1 (.tup (EXR.map V.str)) = H24 at fr hF SH
            change upd H23 t1 (.tup [V.str "ask", V.str "read", V.str "each q", V.str "pause", V.str "end"]) = H24 at eH
            rw [eH]
            clear eH T24 ht1 p2 q2 hG
            obtain ⟨a3, b3, c3, p3, _⟩ := id hF
            walk_at "rd"
            refine ⟨x, dx, _, rfl, p3, x, dx, rows, ys, rfl, hF, hrk, hlen24, fun H25 S25 => ⟨_, rfl, ?_⟩⟩
            have fr := S25 _ _ fr
            have hF := hF.same S25
            have SH := same_trans SH S25
            clear S25 p3
            have hnum := rk_num hrk
            refine ⟨[Txt.join "\n" rows], rfl, ⟨by show 1 ≤ 24; decide, by show (Txt.join "\n" rows).length + 0 ≤ 4000; omega⟩, fun G SG => ?_⟩
            rw [join1]
            refine of_good hDs hns hne hlen24 hgd2 fun x2 dx2 ys2 H26 hx2 hG hL2 S26 => ?_
            have S26 := same_trans SG S26
            have fr := S26 _ _ fr
            have hF := hF.same S26
            have SH := same_trans SH S26
            clear S26 SG hx2 hL2
            obtain ⟨a2, b2, c2, p2, _⟩ := id hG
            obtain ⟨a3, b3, c3, p3, _⟩ := id hF
            walk_at "rd"
            refine ⟨x2, dx2, _, rfl, p2, .inr (.inr (.inl ⟨x, dx, _, rfl, p3⟩)), x2, dx2, rows, ys2, .ref x, rfl, hG, .inr ⟨x, dx, rows, ys, rfl, hF, hrk, hrk, fun H27 S27 => ?_⟩⟩
            rw [decide_eq_true rfl]
            have fr := S27 _ _ fr
            have hF := hF.same S27
            have SH := same_trans SH S27
            clear S27 p2 p3 hG
            walk_at "rd"
            refine ⟨[("return" : Str)], rfl, xr, fun G SG => of_any (ns := nms) (fun r hr => .inl (by rw [List.mem_singleton.mp hr]; decide +kernel)) hns (by decide) yg ye (by decide +kernel) (raw_of (by decide +kernel)) fun x2 dx2 ys2 H28 hx2 hG hL2 S28 => ?_⟩
            have S28 := same_trans SG S28
            have fr := S28 _ _ fr
            have hF := hF.same S28
            have SH := same_trans SH S28
            clear S28 SG hx2 hL2
            obtain ⟨a2, b2, c2, p2, q2, _⟩ := id hG
            refine ⟨x2, C, dx2, _, .ref a2, rfl, p2, R.cl, R.n1, rfl, ?_⟩
            refine ⟨by show 1 ≤ sizeLine; decide, fun t1 ht1 => ?_⟩
            have T29 := same_new (o := .tup [V.str "return"]) (fun a u (e : H28 a = some u) => e) ht1
            have g29 : (upd H28 t1 (.tup [V.str "return"])) t1 = some (.tup ([("return" : Str)].map V.str)) := upd_same
            have q2 := T29 _ _ q2
            have fr := T29 _ _ fr
            have hF := hF.same T29
            have SH := same_trans SH T29
            generalize upd H28 t1 (.tup [V.str "return"]) = H29 at g29 q2 fr hF SH
            refine ⟨.tuple (datS [("return" : Str)]), .tuple (datS [("return" : Str)]), .tup (SqT.of q2) (dpAll_s _), .tup (SqT.of g29) (dpAll_s _), hsy, hsy, ?_⟩
            rw [eqvTS, decide_eq_true rfl]
            walk_at "rd"
            refine ⟨x, r, dx, rows, ys, nms, rfl, hF, SqL.of fr, hk, hDs, hns, hne, hlen24, fun H30 S30 => ?_⟩
            refine ⟨true, rfl, ?_⟩
            show if (!true) = true then _ else _
            refine ite2 (fun h => absurd h (by decide)) (fun _ => ?_)
            exact ⟨_, _, _, _, _, _, _, _, _, rfl, same_trans SH S30⟩
          · have h0 : rows[pn]? = some rows[pn] := List.getElem?_eq_getElem hpn
            generalize rows[pn] = r0 at h0
            walk_at "rd"
            refine ⟨r, _, _, .str r0, rfl, rfl, SqL.of fr, atI_nat (by rw [List.getElem?_map, h0]; rfl), ?_⟩
            refine ⟨by show 4 ≤ sizeLine; decide, fun z hz => ?_⟩
            have T0 := same_new (o := .lst [V.str "ask", V.str "read", V.str "pause", V.str "check"]) (fun a u (e : H21 a = some u) => e) hz
            refine ⟨z, PL4.map V.str, rfl, .inl (SqL.of upd_same), rfl, flatS _, ?_⟩
            walk_at "rd"
            have eS : (if false = true then !inV (V.str r0) (PL4.map V.str) else inV (V.str r0) (PL4.map V.str)) = inS PL4 r0 := by rw [if_neg (by decide)]; rfl
            rw [eS]
            refine ite2 (fun c => ?_) (fun c => ?_)
            · have c : inS PL4 r0 = true := c
              obtain ⟨hDP, hlP, hgP, hnP, hneP⟩ := rep_facts h0 (inS_mem.mp c) hk hDs
              have fr := T0 _ _ fr
              have hF := hF.same T0
              have SH := same_trans SH T0
              generalize upd H21 z (.lst [V.str "ask", V.str "read", V.str "pause", V.str "check"]) = H22 at fr hF SH
              clear T0 hz
              walk_at "rd"
              refine ⟨⟨_, rfl⟩, ?_⟩
              walk_at "rd"
              refine ⟨r, _, rfl, SqL.of fr, fun u1 hu1 => ?_⟩
              rw [cut_take (by rw [List.length_map]; omega), ← List.map_take]
              have T1 := same_new (o := .lst ((rows.take pn).map V.str)) (fun a u (e : H22 a = some u) => e) hu1
              have g1 : (upd H22 u1 (.lst ((rows.take pn).map V.str))) u1 = some (.lst ((rows.take pn).map V.str)) := upd_same
              generalize upd H22 u1 (.lst ((rows.take pn).map V.str)) = G1 at T1 g1
              clear hu1
              walk_at "rd"
              refine ⟨by show 1 ≤ sizeLine; decide, fun u2 hu2 => ?_⟩
              have T2 := same_new (o := .lst [V.str "head"]) (fun a u (e : G1 a = some u) => e) hu2
              have g2 : (upd G1 u2 (.lst [V.str "head"])) u2 = some (.lst [V.str "head"]) := upd_same
              have g1 := T2 _ _ g1
              have T2 := same_trans T1 T2
              generalize upd G1 u2 (.lst [V.str "head"]) = G2 at T2 g1 g2
              clear hu2 T1
              have lt1 : (rows.take pn).length = pn := by rw [List.length_take]; omega
              have lt2 : (rows.drop (pn + 1)).length = rows.length - (pn + 1) := List.length_drop
              have hsz : (100 : Nat) ≤ sizeLine := by decide
              refine ⟨u1, u2, _, _, rfl, rfl, g1, g2, by rw [List.length_map]; show _ + 1 ≤ _; omega, fun u3 hu3 => ?_⟩
              have T3 := same_new (o := .lst ((rows.take pn).map V.str ++ [V.str "head"])) (fun a u (e : G2 a = some u) => e) hu3
              have g3 : (upd G2 u3 (.lst ((rows.take pn).map V.str ++ [V.str "head"]))) u3 = some (.lst ((rows.take pn).map V.str ++ [V.str "head"])) := upd_same
              have T3 := same_trans T2 T3
              generalize upd G2 u3 (.lst ((rows.take pn).map V.str ++ [V.str "head"])) = G3 at T3 g3
              clear hu3 T2 g1 g2
              walk_at "rd"
              refine ⟨r, _, rfl, SqL.of (T3 _ _ fr), fun u4 hu4 => ?_⟩
              have e1 : cutV (rows.map V.str) (some ((pn : Int) + 1)) none = (rows.drop (pn + 1)).map V.str := by
                rw [show ((pn : Int) + 1) = ((pn + 1 : Nat) : Int) by omega, cut_from (by rw [List.length_map]; omega), List.map_drop]
              rw [e1]
              have T4 := same_new (o := .lst ((rows.drop (pn + 1)).map V.str)) (fun a u (e : G3 a = some u) => e) hu4
              have g4 : (upd G3 u4 (.lst ((rows.drop (pn + 1)).map V.str))) u4 = some (.lst ((rows.drop (pn + 1)).map V.str)) := upd_same
              have g3 := T4 _ _ g3
              have T4 := same_trans T3 T4
              generalize upd G3 u4 (.lst ((rows.drop (pn + 1)).map V.str)) = G4 at T4 g3 g4
              clear hu4 T3 e1
              refine ⟨u3, u4, _, _, rfl, rfl, g3, g4, by simp only [List.length_append, List.length_map, lt1, lt2]; show pn + 1 + _ ≤ _; omega, fun u5 hu5 => ?_⟩
              have T5 := same_new (o := .lst ((rows.take pn).map V.str ++ [V.str "head"] ++ (rows.drop (pn + 1)).map V.str)) (fun a u (e : G4 a = some u) => e) hu5
              have g5 : (upd G4 u5 (.lst ((rows.take pn).map V.str ++ [V.str "head"] ++ (rows.drop (pn + 1)).map V.str))) u5 = some (.lst ((repR rows pn).map V.str)) := by
                unfold repR
                rw [upd_same, List.map_append, List.map_append]
                rfl
              have T5 := same_trans T4 T5
              generalize upd G4 u5 (.lst ((rows.take pn).map V.str ++ [V.str "head"] ++ (rows.drop (pn + 1)).map V.str)) = G5 at T5 g5
              clear hu5 T4 g3 g4
              generalize repR rows pn = rp at hDP hlP hgP hnP hneP g5
              have hkP : ∀ r ∈ rp, RK r := fun r hr => drow_rk (hDP r hr)
              obtain ⟨m1, m2⟩ := rk_len hkP (by omega)
              have fr := T5 _ _ fr
              have hF := hF.same T5
              have SH := same_trans SH T5
              clear T5
              refine ⟨_, u5, rp, rfl, rfl, .inl (SqL.of g5), m2, ?_⟩
              intro x2 dx2 hx2 hdx2 ne2
              refine mk_join hx2 hdx2 ne2 hDP hns hnP (by omega) hgP fun ys2 H23 hG hL2 S23 => ⟨rfl, ?_⟩
              have fr := S23 _ _ fr
              have hF := hF.same S23
              have SH := same_trans SH S23
              clear S23 hx2 hdx2 ne2 hL2 g5
              obtain ⟨a2, b2, c2, p2, _⟩ := id hG
              obtain ⟨a3, b3, c3, p3, _⟩ := id hF
              walk_at "rd"
              refine ⟨x2, dx2, _, rfl, p2, .inr (.inr (.inl ⟨x, dx, _, rfl, p3⟩)), x2, dx2, rp, ys2, .ref x, rfl, hG, .inr ⟨x, dx, rows, ys, rfl, hF, hkP, hrk, fun H24 S24 => ?_⟩⟩
              rw [decide_eq_false hneP]
              have fr := S24 _ _ fr
              have hF := hF.same S24
              have hG := hG.same S24
              have SH := same_trans SH S24
              have p2 := S24 _ _ p2
              have p3 := S24 _ _ p3
              clear S24
              walk_at "rd"
              refine ⟨x2, dx2, _, rfl, p2, .inr (.inr (.inl ⟨x, dx, _, rfl, p3⟩)), x2, dx2, rp, ys2, .ref x, rfl, hG, .inr ⟨x, dx, rows, ys, rfl, hF, hkP, hrk, fun H25 S25 => ⟨_, rfl, ?_⟩⟩⟩
              rw [decide_eq_false hneP]
              have fr := S25 _ _ fr
              have hF := hF.same S25
              have SH := same_trans SH S25
              refine ⟨_, rfl, ?_⟩
              exact fin _ _ ⟨_, rfl, fr, hF, SH⟩
            · exact fin _ _ ⟨_, rfl, T0 _ _ fr, hF.same T0, same_trans SH T0⟩
        · walk_at "rd"
          refine ⟨r, _, rfl, .inl (SqL.of fr), ?_⟩
          rw [List.length_map]
          walk_at "rd"
          refine ite2 (fun c => ?_) (fun c => ?_)
          · have c : rows.length < 24 := by
              have c := of_decide_eq_true c
              omega
            walk_at "rd"
            refine ⟨⟨_, rfl⟩, ?_⟩
            walk_at "rd"
            refine ⟨r, _, rfl, SqL.of fr, fun u1 hu1 => ?_⟩
            rw [cut_take (by rw [List.length_map]; omega), ← List.map_take]
            have T1 := same_new (o := .lst ((rows.take pn).map V.str)) (fun a u (e : H20 a = some u) => e) hu1
            have g1 : (upd H20 u1 (.lst ((rows.take pn).map V.str))) u1 = some (.lst ((rows.take pn).map V.str)) := upd_same
            generalize upd H20 u1 (.lst ((rows.take pn).map V.str)) = G1 at T1 g1
            clear hu1
            walk_at "rd"
            refine ⟨by show 1 ≤ sizeLine; decide, fun u2 hu2 => ?_⟩
            have T2 := same_new (o := .lst [V.str "pause"]) (fun a u (e : G1 a = some u) => e) hu2
            have g2 : (upd G1 u2 (.lst [V.str "pause"])) u2 = some (.lst [V.str "pause"]) := upd_same
            have g1 := T2 _ _ g1
            have T2 := same_trans T1 T2
            generalize upd G1 u2 (.lst [V.str "pause"]) = G2 at T2 g1 g2
            clear hu2 T1
            have lt1 : (rows.take pn).length = pn := by rw [List.length_take]; omega
            have lt2 : (rows.drop pn).length = rows.length - pn := List.length_drop
            have hsz : (100 : Nat) ≤ sizeLine := by decide
            refine ⟨u1, u2, _, _, rfl, rfl, g1, g2, by rw [List.length_map]; show _ + 1 ≤ _; omega, fun u3 hu3 => ?_⟩
            have T3 := same_new (o := .lst ((rows.take pn).map V.str ++ [V.str "pause"])) (fun a u (e : G2 a = some u) => e) hu3
            have g3 : (upd G2 u3 (.lst ((rows.take pn).map V.str ++ [V.str "pause"]))) u3 = some (.lst ((rows.take pn).map V.str ++ [V.str "pause"])) := upd_same
            have T3 := same_trans T2 T3
            generalize upd G2 u3 (.lst ((rows.take pn).map V.str ++ [V.str "pause"])) = G3 at T3 g3
            clear hu3 T2 g1 g2
            walk_at "rd"
            refine ⟨r, _, rfl, SqL.of (T3 _ _ fr), fun u4 hu4 => ?_⟩
            rw [cut_from (by rw [List.length_map]; omega), ← List.map_drop]
            have T4 := same_new (o := .lst ((rows.drop pn).map V.str)) (fun a u (e : G3 a = some u) => e) hu4
            have g4 : (upd G3 u4 (.lst ((rows.drop pn).map V.str))) u4 = some (.lst ((rows.drop pn).map V.str)) := upd_same
            have g3 := T4 _ _ g3
            have T4 := same_trans T3 T4
            generalize upd G3 u4 (.lst ((rows.drop pn).map V.str)) = G4 at T4 g3 g4
            clear hu4 T3
            refine ⟨u3, u4, _, _, rfl, rfl, g3, g4, by simp only [List.length_append, List.length_map, lt1, lt2]; show pn + 1 + _ ≤ _; omega, fun u5 hu5 => ?_⟩
            have T5 := same_new (o := .lst ((rows.take pn).map V.str ++ [V.str "pause"] ++ (rows.drop pn).map V.str)) (fun a u (e : G4 a = some u) => e) hu5
            have g5 : (upd G4 u5 (.lst ((rows.take pn).map V.str ++ [V.str "pause"] ++ (rows.drop pn).map V.str))) u5 = some (.lst ((rows.take pn ++ [("pause" : Str)] ++ rows.drop pn).map V.str)) := by
              rw [upd_same, List.map_append, List.map_append]
              rfl
            have T5 := same_trans T4 T5
            generalize upd G4 u5 (.lst ((rows.take pn).map V.str ++ [V.str "pause"] ++ (rows.drop pn).map V.str)) = G5 at T5 g5
            clear hu5 T4 g3 g4
            obtain ⟨hDP, hlP, hgP, hnP, haP, hneP⟩ := ins_facts hpn hk hDs
            change G5 u5 = some (.lst ((insR rows pn).map V.str)) at g5
            generalize insR rows pn = rp at hDP hlP hgP hnP haP hneP g5
            have hkP : ∀ r ∈ rp, RK r := fun r hr => drow_rk (hDP r hr)
            obtain ⟨m1, m2⟩ := rk_len hkP (by omega)
            have fr := T5 _ _ fr
            have hF := hF.same T5
            have SH := same_trans SH T5
            clear T5
            refine ⟨_, u5, rp, rfl, rfl, .inl (SqL.of g5), m2, ?_⟩
            intro x2 dx2 hx2 hdx2 ne2
            refine mk_join hx2 hdx2 ne2 hDP hns hnP (by omega) hgP fun ys2 H22 hG hL2 S22 => ⟨rfl, ?_⟩
            have fr := S22 _ _ fr
            have hF := hF.same S22
            have SH := same_trans SH S22
            clear S22 hx2 hdx2 ne2 hL2 g5
            obtain ⟨a2, b2, c2, p2, _⟩ := id hG
            obtain ⟨a3, b3, c3, p3, _⟩ := id hF
            walk_at "rd"
            refine ⟨x2, dx2, _, rfl, p2, .inr (.inr (.inl ⟨x, dx, _, rfl, p3⟩)), x2, dx2, rp, ys2, .ref x, rfl, hG, .inr ⟨x, dx, rows, ys, rfl, hF, hkP, hrk, fun H23 S23 => ?_⟩⟩
            rw [decide_eq_false hneP]
            have fr := S23 _ _ fr
            have hF := hF.same S23
            have hG := hG.same S23
            have SH := same_trans SH S23
            have p2 := S23 _ _ p2
            clear S23 p3
            walk_at "rd"
            refine ⟨x2, dx2, _, rfl, p2, x2, dx2, _, _, rfl, hG, fun H24 S24 => ⟨_, rfl, Nat.lt_of_le_of_lt (show rp.length ≤ 24 by omega) (by decide), ?_⟩⟩
            have fr := S24 _ _ fr
            have hF := hF.same S24
            have hG := hG.same S24
            have SH := same_trans SH S24
            clear S24 p2
            walk_at "rd"
            refine ⟨r, _, rfl, .inl (SqL.of fr), ?_⟩
            rw [List.length_map]
            walk_at "rd"
            refine ite2 (fun e => ?_) (fun _ => ?_)
            · exfalso
              rw [decide_eq_true (by rw [hlP]; exact congrArg V.int (by omega))] at e
              cases e
            obtain ⟨a4, b4, c4, p4, q4, _⟩ := id hG
            walk_at "rd"
            refine ⟨x2, C, dx2, _, .ref a4, rfl, p4, R.cl, R.n1, rfl, ?_⟩
            walk_at "rd"
            refine ⟨a4, _, _, .str "pause", rfl, rfl, SqT.of q4, atI_nat (by rw [List.getElem?_map, haP]; rfl), ?_⟩
            refine ⟨rfl, _, rfl, ?_⟩
            refine ite2 (fun e => (n0 _ e).elim) (fun _ => ?_)
            exact fin _ _ ⟨_, rfl, fr, hF, SH⟩
          · exact fin _ _ ⟨_, rfl, fr, hF, SH⟩
      walk_at "rd"
      refine ⟨⟨_, SqL.of fr⟩, fun D hD => lc_list (a := r) (xs := rows.map V.str) (fun j H' => H' D = some (.lst ((secs (rows.take j)).map V.str)) ∧ Same H5 H') ⟨upd_same, same_new (fun _ _ e => e) hD⟩ (fun j H' _ h => SqL.of (h.2 _ _ fr)) ?_ ?_⟩
      · rintro j v H' hj ⟨g1, g2⟩
        rw [List.getElem?_map] at hj
        obtain ⟨r', hr', rfl⟩ := Option.map_eq_some_iff.mp hj
        have hDr := hDs r' (List.mem_of_getElem? hr')
        have hV := vr_of (drow_rk hDr)
        have hjl := (List.getElem?_eq_some_iff.mp hr').1
        refine ⟨rfl, ?_⟩
        walk_at "rd"
        refine ⟨Nat.le_trans hV.len (by decide), ?_⟩
        walk_at "rd"
        rw [hV.five]
        refine ite2 (fun c => ?_) (fun c => ?_)
        · walk_at "rd"
          refine ⟨Nat.le_trans hV.len (by decide), ?_⟩
          refine ⟨_, g1, ?_, ?_, same_over g2 hD⟩
          · rw [List.length_map]
            unfold secs
            rw [List.length_map]
            have h1 := List.length_filter_le (fun r => Txt.startswith r "each ") (rows.take j)
            rw [List.length_take] at h1
            exact Nat.lt_of_lt_of_le (m := 64) (by omega) (by decide)
          · rw [upd_same, secs_t hr' c, List.map_append, drow_five hDr c]
            rfl
        · refine ⟨?_, g2⟩
          rw [g1, secs_f hr' c]
      rintro H6 ⟨g1, g2⟩
      rw [List.length_map, List.take_length] at g1
      have SH := same_trans SH g2
      have fr := g2 _ _ fr
      have hF := hF.same g2
      have B6 := B5.same g2
      clear g2 hD B5
      have sl : (secs rows).length < 64 := by
        unfold secs
        rw [List.length_map]
        have := List.length_filter_le (fun r => Txt.startswith r "each ") rows
        omega
      walk_at "rd"
      refine ⟨D, _, rfl, SqL.of g1, sl, fun s hs => ?_⟩
      have U := same_new (o := GsX.SetO P w s (GsW.addAll [] (secs rows))) (fun a u (e : H6 a = some u) => e) hs
      have fr := U _ _ fr
      have hF := hF.same U
      have B6 := B6.same U
      have SH := same_trans SH U
      obtain ⟨ys0, ya, yn, ym⟩ := GsW.addAll_mem (xs := secs rows) (ks := []) .nil
      have ya : GsW.addAll [] (secs rows) = ys0.map Sum.inr := ya
      have yl : ys0.length < 64 := by
        have h1 := GsW.addAll_len (secs rows) []
        rw [ya, List.length_map] at h1
        have h0 : ([] : List Key).length = 0 := rfl
        omega
      have us : (upd H6 s (GsX.SetO P w s (GsW.addAll [] (secs rows)))) s = some (GsX.SetO P w s (ys0.map Sum.inr)) := by rw [upd_same, ya]
      clear U g1
      walk_at "rd"
      refine ⟨s, ys0, rfl, us, yl, fun zs q hp hsz hq => ?_⟩
      have eL : zs = ys := lists_inj ⟨hsz, hp.nodup_iff.mpr yn, fun z => (hp.mem_iff.trans (ym z)).trans ⟨fun h => h.elim (fun h => by cases h) id, .inr⟩⟩ hL
      subst eL
      have T8 := same_new (o := .lst (zs.map V.str)) (fun a u (e : (upd H6 s (GsX.SetO P w s (GsW.addAll [] (secs rows)))) a = some u) => e) hq
      exact fin _ _ ⟨q, rfl, upd_same, T8 _ _ fr, hF.same T8, B6.same T8, same_trans SH T8⟩
    · rintro σ H' ⟨o1, o2, o3, o4, o5, o6, o7, o8, o9, rfl, S⟩
      walk_at "rd"
      exact k _
end
end Ow

set_option Elab.async false
set_option linter.all false
set_option maxRecDepth 100000
set_option maxHeartbeats 1000000
namespace OpX
open PySem PySem.Spec PyProof.Rows L2
/-! a dict and an empty one -/
def rD0 (neg : Bool) : R2 := fun x y H Q => ∃ a b kvs, x = .ref a ∧ y = .ref b ∧ H a = some (.dK kvs) ∧ H b = some (.dK []) ∧ Q (.bl (if neg then !kvs.isEmpty else kvs.isEmpty)) H
theorem op_eq_d0 {X : Cx} (hu : X.A.units < cLine) : OpR X (compareOp .Eq) (rD0 false) := by
  intro pins s σ H x y v u Q I rx ry h
  obtain ⟨a, b, kvs, rfl, rfl, ea, eb, q⟩ := h
  obtain rfl : v = Value.ref a := rx
  obtain rfl : u = Value.ref b := ry
  obtain ⟨_, ya, va, ra, da⟩ := (show ObjOk X.prog X.w H s.heap a (.dK kvs) from I.hok a _ ea)
  obtain ⟨_, yb, vb, rb, db⟩ := (show ObjOk X.prog X.w H s.heap b (.dK []) from I.hok b _ eb)
  cases rb
  have hl : va.length = kvs.length := ra.length.symm
  refine PySem.W.keq_eq (knd := mixKind X.prog X.w) (r := true) ya yb da db hu (fun e => ?_) (fin_bl I q ?_)
  · cases va with
    | nil => exact .nil
    | cons _ _ => simp at e
  · cases kvs <;> cases va <;> simp at hl ⊢
theorem op_ne_d0 {X : Cx} (hu : X.A.units < cLine) : OpR X (compareOp .NotEq) (rD0 true) := by
  intro pins s σ H x y v u Q I rx ry h
  obtain ⟨a, b, kvs, rfl, rfl, ea, eb, q⟩ := h
  obtain rfl : v = Value.ref a := rx
  obtain rfl : u = Value.ref b := ry
  obtain ⟨_, ya, va, ra, da⟩ := (show ObjOk X.prog X.w H s.heap a (.dK kvs) from I.hok a _ ea)
  obtain ⟨_, yb, vb, rb, db⟩ := (show ObjOk X.prog X.w H s.heap b (.dK []) from I.hok b _ eb)
  cases rb
  have hl : va.length = kvs.length := ra.length.symm
  refine PySem.W.keq_ne (knd := mixKind X.prog X.w) (r := true) ya yb da db hu (fun e => ?_) (fin_bl I q ?_)
  · cases va with
    | nil => exact .nil
    | cons _ _ => simp at e
  · cases kvs <;> cases va <;> simp at hl ⊢
end OpX

set_option Elab.async false
set_option linter.all false
set_option maxRecDepth 100000
set_option maxHeartbeats 4000000
namespace Ow
open PySem PySem.Spec PyProof.Rows L2 ErX
local macro_rules | `(tactic| walk_at "rd") => `(tactic| repeat (first | (refine ⟨_, rfl, ?_⟩) | (refine ⟨_, _, rfl, rfl, ?_⟩) | (refine ⟨rfl, ?_⟩) | (refine ⟨_, _, rfl, ?_⟩) | (refine Or.inl ⟨_, rfl, ?_⟩) | (refine ⟨(by first | (show (0 : Int) < (_ : Int); decide) | exact Or.inl ⟨by decide, by decide⟩ | exact Or.inr ⟨by decide, by decide⟩ | exact ⟨by decide, by decide⟩ | exact ⟨by decide, by decide, by decide⟩), ?_⟩)))
section
variable {P : Program} {w : World} {K : PySem.W.Frag} {mg : Str → Option Value} {base : Heap}
abbrev s_BadFunctionD_initD : Stmt := inClass (top 3) 0
theorem sc_BadFunctionD_initD : FnScopeF ["self", "row"] ["self", "row"] (defScope s_BadFunctionD_initD) := ⟨rfl, rfl, rfl, by decide +kernel, rfl, by decide +kernel, by decide +kernel, by decide +kernel, rfl, rfl⟩
theorem ok_er_BadFunction {f cc cda C : Addr} {oc kV dc pm ct : Value} {od an : Option Addr} {sl : Array (Option Value)} (lk : K.lookup f = some ⟨oc, od, .func (PySem.W.ksFn "__init__" "BadFunction.__init__" (defArgs s_BadFunctionD_initD) (defBody s_BadFunctionD_initD) (defScope s_BadFunctionD_initD) .none kV dc pm an (.ref cda) ct cc), sl⟩) (hcd : PySem.W.codeIn K (.ref cda) "BadFunction.__init__" = true) (G : ErC K P C f cc cda) (no : PySem.W.findIn K (.ref C) "row" = some none) :
    FnOk P w K mg base (L2.CX P w) 2 f (PySem.W.ksFn "__init__" "BadFunction.__init__" (defArgs s_BadFunctionD_initD) (defBody s_BadFunctionD_initD) (defScope s_BadFunctionD_initD) .none kV dc pm an (.ref cda) ct cc) ["self", "row"] (spEr C "row") := by
  refine fn_err lk rfl hcd sc_BadFunctionD_initD G (fun env => ⟨_, rfl⟩) (fun _ => rfl) (fun _ => rfl) rfl rfl (fun vs H Q E h => ?_) (fun A outer s H vs Q E hr h => ?_)
  · obtain ⟨a, v, rfl, _⟩ := h
    rfl
  · obtain ⟨a, v, rfl, ok, ha, k⟩ := h
    refine ⟨_, _, a, _, rfl, ha, (pe_joined (PJ.cons pe_str (PJ.cons (pe_fmtR (pv 1)) (PJ.cons pe_str PJ.nil)))), (pss_one (ps_ost (pv 0) (pv 1))), ?_⟩
    have fin : ∀ H1, H1 = H → (tOst K "row" (tVar 0) (tVar 1)) { nx := fun _ H' => Q .non H', rt := Q } (L2.start ["self", "row"] [.ref a, v]) H1 := fun H1 e => by
      subst e
      refine ⟨v, rfl, .ref a, rfl, a, C, rfl, G.oex, no, .inl ⟨ha, fun d hd da => k d _ hd da upd_same ?_ fun b o ba e => ?_⟩⟩
      · rw [upd_ne da]; exact upd_same
      · rw [upd_ne ba, upd_ne (ne_of_none e hd)]; exact e
    have c9 : Str.empty.length = 0 := rfl
    have c0 : ("row " : Str).length = 4 := by decide +kernel
    have c1 : (" is wrong" : Str).length = 9 := by decide +kernel
    rcases ok with ⟨y, rfl, hy⟩ | ⟨i, rfl, hi⟩
    · have hr := hy.repr
      have hs := hy.sz
      exact ⟨_, rfl, sz_ok (by simp only [app_len, c9, c0, c1]; omega), ⟨_, rfl, .inl ⟨y, rfl, sz_ok (by omega), _, rfl, sz_ok (by simp only [app_len, c9, c0, c1]; omega), ⟨_, rfl, sz_ok (by simp only [app_len, c9, c0, c1]; omega), ⟨ha, fin _ rfl⟩⟩⟩⟩⟩
    · have hs := int_len hi
      exact ⟨_, rfl, sz_ok (by simp only [app_len, c9, c0, c1]; omega), ⟨_, rfl, .inr ⟨i, rfl, int_log hi, _, rfl, sz_ok (by simp only [app_len, c9, c0, c1]; omega), ⟨_, rfl, sz_ok (by simp only [app_len, c9, c0, c1]; omega), ⟨ha, fin _ rfl⟩⟩⟩⟩⟩
abbrev s_TooManyD_initD : Stmt := inClass (top 4) 0
theorem sc_TooManyD_initD : FnScopeF ["self", "what"] ["self", "what"] (defScope s_TooManyD_initD) := ⟨rfl, rfl, rfl, by decide +kernel, rfl, by decide +kernel, by decide +kernel, by decide +kernel, rfl, rfl⟩
theorem ok_er_TooMany {f cc cda C : Addr} {oc kV dc pm ct : Value} {od an : Option Addr} {sl : Array (Option Value)} (lk : K.lookup f = some ⟨oc, od, .func (PySem.W.ksFn "__init__" "TooMany.__init__" (defArgs s_TooManyD_initD) (defBody s_TooManyD_initD) (defScope s_TooManyD_initD) .none kV dc pm an (.ref cda) ct cc), sl⟩) (hcd : PySem.W.codeIn K (.ref cda) "TooMany.__init__" = true) (G : ErC K P C f cc cda) (no : PySem.W.findIn K (.ref C) "what" = some none) :
    FnOk P w K mg base (L2.CX P w) 2 f (PySem.W.ksFn "__init__" "TooMany.__init__" (defArgs s_TooManyD_initD) (defBody s_TooManyD_initD) (defScope s_TooManyD_initD) .none kV dc pm an (.ref cda) ct cc) ["self", "what"] (spEr C "what") := by
  refine fn_err lk rfl hcd sc_TooManyD_initD G (fun env => ⟨_, rfl⟩) (fun _ => rfl) (fun _ => rfl) rfl rfl (fun vs H Q E h => ?_) (fun A outer s H vs Q E hr h => ?_)
  · obtain ⟨a, v, rfl, _⟩ := h
    rfl
  · obtain ⟨a, v, rfl, ok, ha, k⟩ := h
    refine ⟨_, _, a, _, rfl, ha, (pe_joined (PJ.cons pe_str (PJ.cons (pe_fmt (pv 1)) PJ.nil))), (pss_one (ps_ost (pv 0) (pv 1))), ?_⟩
    have fin : ∀ H1, H1 = H → (tOst K "what" (tVar 0) (tVar 1)) { nx := fun _ H' => Q .non H', rt := Q } (L2.start ["self", "what"] [.ref a, v]) H1 := fun H1 e => by
      subst e
      refine ⟨v, rfl, .ref a, rfl, a, C, rfl, G.oex, no, .inl ⟨ha, fun d hd da => k d _ hd da upd_same ?_ fun b o ba e => ?_⟩⟩
      · rw [upd_ne da]; exact upd_same
      · rw [upd_ne ba, upd_ne (ne_of_none e hd)]; exact e
    have c9 : Str.empty.length = 0 := rfl
    have c0 : ("too many " : Str).length = 9 := by decide +kernel
    rcases ok with ⟨y, rfl, hy⟩ | ⟨i, rfl, hi⟩
    · have hr := hy.repr
      have hs := hy.sz
      exact ⟨_, rfl, sz_ok (by simp only [app_len, c9, c0]; omega), ⟨_, rfl, .inl ⟨y, rfl, sz_ok (by omega), _, rfl, sz_ok (by simp only [app_len, c9, c0]; omega), ⟨ha, fin _ rfl⟩⟩⟩⟩
    · have hs := int_len hi
      exact ⟨_, rfl, sz_ok (by simp only [app_len, c9, c0]; omega), ⟨_, rfl, .inr ⟨i, rfl, int_log hi, _, rfl, sz_ok (by simp only [app_len, c9, c0]; omega), ⟨ha, fin _ rfl⟩⟩⟩⟩
end
end Ow

set_option Elab.async false
set_option linter.all false
set_option maxRecDepth 100000
set_option maxHeartbeats 8000000
namespace Ow
open PySem PySem.Spec PyProof.Rows L2
theorem all_mk {l : PySem.W.OpenLaw} {w : World} {K : PySem.W.Frag} {h : Heap} {mg : Str → Option Value} {fa : Addr} (X : K.In h) (G : h.Ns mainGlobals mg) (hfa : mg "law" = some (.ref fa))
    {f0 : Addr} {od0 an0 : Option Addr} {sl0 : Array (Option Value)} {oc0 kV0 dc0 pm0 cd0 ct0 : Value} {f1 : Addr} {od1 an1 : Option Addr} {sl1 : Array (Option Value)} {oc1 kV1 dc1 pm1 cd1 ct1 : Value} {f2 : Addr} {od2 an2 : Option Addr} {sl2 : Array (Option Value)} {oc2 kV2 dc2 pm2 cd2 ct2 : Value} {f3 : Addr} {od3 an3 : Option Addr} {sl3 : Array (Option Value)} {oc3 kV3 dc3 pm3 cd3 ct3 : Value} {f4 : Addr} {od4 an4 : Option Addr} {sl4 : Array (Option Value)} {oc4 kV4 dc4 pm4 cd4 ct4 : Value} {f5 : Addr} {od5 an5 : Option Addr} {sl5 : Array (Option Value)} {oc5 kV5 dc5 pm5 cd5 ct5 : Value} {f6 : Addr} {od6 an6 : Option Addr} {sl6 : Array (Option Value)} {oc6 kV6 dc6 pm6 cd6 ct6 : Value} {f7 : Addr} {od7 an7 : Option Addr} {sl7 : Array (Option Value)} {oc7 kV7 dc7 pm7 cd7 ct7 : Value} {f8 : Addr} {od8 an8 : Option Addr} {sl8 : Array (Option Value)} {oc8 kV8 dc8 pm8 cd8 ct8 : Value} {f9 : Addr} {od9 an9 : Option Addr} {sl9 : Array (Option Value)} {oc9 kV9 dc9 pm9 cd9 ct9 : Value} {f10 : Addr} {od10 an10 : Option Addr} {sl10 : Array (Option Value)} {oc10 kV10 dc10 pm10 cd10 ct10 : Value} {f11 : Addr} {od11 an11 : Option Addr} {sl11 : Array (Option Value)} {oc11 kV11 dc11 pm11 cd11 ct11 : Value} {f12 : Addr} {od12 an12 : Option Addr} {sl12 : Array (Option Value)} {oc12 kV12 dc12 pm12 cd12 ct12 : Value} {f13 : Addr} {od13 an13 : Option Addr} {sl13 : Array (Option Value)} {oc13 kV13 dc13 pm13 cd13 ct13 : Value} {f14 : Addr} {od14 an14 : Option Addr} {sl14 : Array (Option Value)} {oc14 kV14 dc14 pm14 cd14 ct14 : Value} {f15 : Addr} {od15 an15 : Option Addr} {sl15 : Array (Option Value)} {oc15 kV15 dc15 pm15 cd15 ct15 : Value} {f16 : Addr} {od16 an16 : Option Addr} {sl16 : Array (Option Value)} {oc16 kV16 dc16 pm16 cd16 ct16 : Value} {f17 : Addr} {od17 an17 : Option Addr} {sl17 : Array (Option Value)} {oc17 kV17 dc17 pm17 cd17 ct17 : Value} {f18 : Addr} {od18 an18 : Option Addr} {sl18 : Array (Option Value)} {oc18 kV18 dc18 pm18 cd18 ct18 : Value} {f19 : Addr} {od19 an19 : Option Addr} {sl19 : Array (Option Value)} {oc19 kV19 dc19 pm19 cd19 ct19 : Value} {C : Addr} {f20 : Addr} {od20 an20 : Option Addr} {sl20 : Array (Option Value)} {oc20 kV20 dc20 pm20 cd20 ct20 : Value} {f21 : Addr} {od21 an21 : Option Addr} {sl21 : Array (Option Value)} {oc21 kV21 dc21 pm21 cd21 ct21 : Value} {f22 : Addr} {od22 an22 : Option Addr} {sl22 : Array (Option Value)} {oc22 kV22 dc22 pm22 cd22 ct22 : Value} {f23 : Addr} {od23 an23 : Option Addr} {sl23 : Array (Option Value)} {oc23 kV23 dc23 pm23 cd23 ct23 : Value} {f24 : Addr} {od24 an24 : Option Addr} {sl24 : Array (Option Value)} {oc24 kV24 dc24 pm24 cd24 ct24 : Value} {f25 : Addr} {od25 an25 : Option Addr} {sl25 : Array (Option Value)} {oc25 kV25 dc25 pm25 cd25 ct25 : Value} {f26 : Addr} {od26 an26 : Option Addr} {sl26 : Array (Option Value)} {oc26 kV26 dc26 pm26 cd26 ct26 : Value} {f27 : Addr} {od27 an27 : Option Addr} {sl27 : Array (Option Value)} {oc27 kV27 dc27 pm27 cd27 ct27 : Value} {f28 : Addr} {od28 an28 : Option Addr} {sl28 : Array (Option Value)} {oc28 kV28 dc28 pm28 cd28 ct28 : Value} {t_LETTERS : Tok} {t_MOST_LETTERS : Tok} {t_MOST_ROWS : Tok} {t_MOST_LISTS : Tok} {t_MOST_DEPTH : Tok} {t_MOST_RETRIES : Tok} {AO : Addr} {odO : Option Addr} {nO : Nat} {slO : Array (Option Value)} {tO0 tO1 tO2 tO3 tO4 : Tok} {AP : Addr} {odP : Option Addr} {nP : Nat} {slP : Array (Option Value)} {tP0 tP1 tP2 tP3 tP4 tP5 tP6 tP7 tP8 tP9 tP10 : Tok} {AS : Addr} {odS : Option Addr} {nS : Nat} {slS : Array (Option Value)} {tS0 tS1 tS2 tS3 tS4 tS5 tS6 : Tok} {AT : Addr} {odT : Option Addr} {nT : Nat} {slT : Array (Option Value)} {tT0 tT1 tT2 : Tok} {AW : Addr} {odW : Option Addr} {nW : Nat} {slW : Array (Option Value)} {tW0 tW1 tW2 tW3 tW4 : Tok} {AX : Addr} {odX : Option Addr} {nX : Nat} {slX : Array (Option Value)} {tX0 tX1 tX2 tX3 tX4 : Tok} {AM : Addr} {esM : Array DictEntry} {nM : Nat} {d1 d2 d3 : DictEntry} {tm1 tm2 tm3 um1 um2 um3 : Tok} {CO : Addr} {CB : Addr} {NCB fCB ccCB cdaCB : Addr} {nmCB qCB : Str} {bsCB subCB : List Value} {snCB : List Str} {abCB : Bool} {colCB : Option Bool} {ddCB odCB anCB cldCB cddCB : Option Addr} {k0CB k1CB k2CB k3CB k5CB : Option Value} {ocCB kVCB dcCB pmCB ctCB clCB cclCB : Value} {slCB cslCB ccsCB : Array (Option Value)} {fvsCB : Array Value} {fiCB : Str} {tfCB : Tok} {CT : Addr} {NCT fCT ccCT cdaCT : Addr} {nmCT qCT : Str} {bsCT subCT : List Value} {snCT : List Str} {abCT : Bool} {colCT : Option Bool} {ddCT odCT anCT cldCT cddCT : Option Addr} {k0CT k1CT k2CT k3CT k5CT : Option Value} {ocCT kVCT dcCT pmCT ctCT clCT cclCT : Value} {slCT cslCT ccsCT : Array (Option Value)} {fvsCT : Array Value} {fiCT : Str} {tfCT : Tok} {pOf fOf : Addr} {rest : List Value} {od90 an90 : Option Addr} {sl90 : Array (Option Value)} {oc90 kV90 dc90 pm90 cd90 ct90 : Value}
    (a0 : PySem.W.nsIn K mainGlobals "_law_bag" = some (some (.ref f0)))
    (l0 : K.lookup f0 = some ⟨oc0, od0, .func (PySem.W.fnOf "_law_bag" "_law_bag" (defArgs s_law_bag) (defBody s_law_bag) (defScope s_law_bag) .none kV0 dc0 pm0 an0 cd0 ct0), sl0⟩)
    (c0 : PySem.W.codeIn K cd0 "_law_bag" = true)
    (k0 : PySem.W.keepIn K (.ref f0) = true)
    (a1 : PySem.W.nsIn K mainGlobals "_law_take" = some (some (.ref f1)))
    (l1 : K.lookup f1 = some ⟨oc1, od1, .func (PySem.W.fnOf "_law_take" "_law_take" (defArgs s_law_take) (defBody s_law_take) (defScope s_law_take) .none kV1 dc1 pm1 an1 cd1 ct1), sl1⟩)
    (c1 : PySem.W.codeIn K cd1 "_law_take" = true)
    (k1 : PySem.W.keepIn K (.ref f1) = true)
    (a2 : PySem.W.nsIn K mainGlobals "_law_of" = some (some (.ref f2)))
    (l2 : K.lookup f2 = some ⟨oc2, od2, .func (PySem.W.fnOf "_law_of" "_law_of" (defArgs s_law_of) (defBody s_law_of) (defScope s_law_of) .none kV2 dc2 pm2 an2 cd2 ct2), sl2⟩)
    (c2 : PySem.W.codeIn K cd2 "_law_of" = true)
    (k2 : PySem.W.keepIn K (.ref f2) = true)
    (a3 : PySem.W.nsIn K mainGlobals "_law_names" = some (some (.ref f3)))
    (l3 : K.lookup f3 = some ⟨oc3, od3, .func (PySem.W.fnOf "_law_names" "_law_names" (defArgs s_law_names) (defBody s_law_names) (defScope s_law_names) .none kV3 dc3 pm3 an3 cd3 ct3), sl3⟩)
    (c3 : PySem.W.codeIn K cd3 "_law_names" = true)
    (k3 : PySem.W.keepIn K (.ref f3) = true)
    (a4 : PySem.W.nsIn K mainGlobals "_law_may_reset" = some (some (.ref f4)))
    (l4 : K.lookup f4 = some ⟨oc4, od4, .func (PySem.W.fnOf "_law_may_reset" "_law_may_reset" (defArgs s_law_may_reset) (defBody s_law_may_reset) (defScope s_law_may_reset) .none kV4 dc4 pm4 an4 cd4 ct4), sl4⟩)
    (c4 : PySem.W.codeIn K cd4 "_law_may_reset" = true)
    (k4 : PySem.W.keepIn K (.ref f4) = true)
    (a5 : PySem.W.nsIn K mainGlobals "_law_plain" = some (some (.ref f5)))
    (l5 : K.lookup f5 = some ⟨oc5, od5, .func (PySem.W.fnOf "_law_plain" "_law_plain" (defArgs s_law_plain) (defBody s_law_plain) (defScope s_law_plain) .none kV5 dc5 pm5 an5 cd5 ct5), sl5⟩)
    (c5 : PySem.W.codeIn K cd5 "_law_plain" = true)
    (k5 : PySem.W.keepIn K (.ref f5) = true)
    (a6 : PySem.W.nsIn K mainGlobals "_law_block" = some (some (.ref f6)))
    (l6 : K.lookup f6 = some ⟨oc6, od6, .func (PySem.W.fnOf "_law_block" "_law_block" (defArgs s_law_block) (defBody s_law_block) (defScope s_law_block) .none kV6 dc6 pm6 an6 cd6 ct6), sl6⟩)
    (c6 : PySem.W.codeIn K cd6 "_law_block" = true)
    (k6 : PySem.W.keepIn K (.ref f6) = true)
    (a7 : PySem.W.nsIn K mainGlobals "_law_group" = some (some (.ref f7)))
    (l7 : K.lookup f7 = some ⟨oc7, od7, .func (PySem.W.fnOf "_law_group" "_law_group" (defArgs s_law_group) (defBody s_law_group) (defScope s_law_group) .none kV7 dc7 pm7 an7 cd7 ct7), sl7⟩)
    (c7 : PySem.W.codeIn K cd7 "_law_group" = true)
    (k7 : PySem.W.keepIn K (.ref f7) = true)
    (a8 : PySem.W.nsIn K mainGlobals "_law_function" = some (some (.ref f8)))
    (l8 : K.lookup f8 = some ⟨oc8, od8, .func (PySem.W.fnOf "_law_function" "_law_function" (defArgs s_law_function) (defBody s_law_function) (defScope s_law_function) .none kV8 dc8 pm8 an8 cd8 ct8), sl8⟩)
    (c8 : PySem.W.codeIn K cd8 "_law_function" = true)
    (k8 : PySem.W.keepIn K (.ref f8) = true)
    (a9 : PySem.W.nsIn K mainGlobals "_law_spaced" = some (some (.ref f9)))
    (l9 : K.lookup f9 = some ⟨oc9, od9, .func (PySem.W.fnOf "_law_spaced" "_law_spaced" (defArgs s_law_spaced) (defBody s_law_spaced) (defScope s_law_spaced) .none kV9 dc9 pm9 an9 cd9 ct9), sl9⟩)
    (c9 : PySem.W.codeIn K cd9 "_law_spaced" = true)
    (k9 : PySem.W.keepIn K (.ref f9) = true)
    (a10 : PySem.W.nsIn K mainGlobals "_law_refused" = some (some (.ref f10)))
    (l10 : K.lookup f10 = some ⟨oc10, od10, .func (PySem.W.fnOf "_law_refused" "_law_refused" (defArgs s_law_refused) (defBody s_law_refused) (defScope s_law_refused) .none kV10 dc10 pm10 an10 cd10 ct10), sl10⟩)
    (c10 : PySem.W.codeIn K cd10 "_law_refused" = true)
    (k10 : PySem.W.keepIn K (.ref f10) = true)
    (a11 : PySem.W.nsIn K mainGlobals "_law_more" = some (some (.ref f11)))
    (l11 : K.lookup f11 = some ⟨oc11, od11, .func (PySem.W.fnOf "_law_more" "_law_more" (defArgs s_law_more) (defBody s_law_more) (defScope s_law_more) .none kV11 dc11 pm11 an11 cd11 ct11), sl11⟩)
    (c11 : PySem.W.codeIn K cd11 "_law_more" = true)
    (k11 : PySem.W.keepIn K (.ref f11) = true)
    (a12 : PySem.W.nsIn K mainGlobals "law" = some (some (.ref f12)))
    (l12 : K.lookup f12 = some ⟨oc12, od12, .func (PySem.W.fnOf "law" "law" (defArgs s_law) (defBody s_law) (defScope s_law) .none kV12 dc12 pm12 an12 cd12 ct12), sl12⟩)
    (c12 : PySem.W.codeIn K cd12 "law" = true)
    (k12 : PySem.W.keepIn K (.ref f12) = true)
    (a13 : PySem.W.nsIn K mainGlobals "is_list_name" = some (some (.ref f13)))
    (l13 : K.lookup f13 = some ⟨oc13, od13, .func (PySem.W.fnOf "is_list_name" "is_list_name" (defArgs s_is_list_name) (defBody s_is_list_name) (defScope s_is_list_name) .none kV13 dc13 pm13 an13 cd13 ct13), sl13⟩)
    (c13 : PySem.W.codeIn K cd13 "is_list_name" = true)
    (k13 : PySem.W.keepIn K (.ref f13) = true)
    (a14 : PySem.W.nsIn K mainGlobals "_is_written" = some (some (.ref f14)))
    (l14 : K.lookup f14 = some ⟨oc14, od14, .func (PySem.W.fnOf "_is_written" "_is_written" (defArgs s_is_written) (defBody s_is_written) (defScope s_is_written) .none kV14 dc14 pm14 an14 cd14 ct14), sl14⟩)
    (c14 : PySem.W.codeIn K cd14 "_is_written" = true)
    (k14 : PySem.W.keepIn K (.ref f14) = true)
    (a15 : PySem.W.nsIn K mainGlobals "_opens_wrongly" = some (some (.ref f15)))
    (l15 : K.lookup f15 = some ⟨oc15, od15, .func (PySem.W.fnOf "_opens_wrongly" "_opens_wrongly" (defArgs s_opens_wrongly) (defBody s_opens_wrongly) (defScope s_opens_wrongly) .none kV15 dc15 pm15 an15 cd15 ct15), sl15⟩)
    (c15 : PySem.W.codeIn K cd15 "_opens_wrongly" = true)
    (k15 : PySem.W.keepIn K (.ref f15) = true)
    (a16 : PySem.W.nsIn K mainGlobals "_stops_wrongly" = some (some (.ref f16)))
    (l16 : K.lookup f16 = some ⟨oc16, od16, .func (PySem.W.fnOf "_stops_wrongly" "_stops_wrongly" (defArgs s_stops_wrongly) (defBody s_stops_wrongly) (defScope s_stops_wrongly) .none kV16 dc16 pm16 an16 cd16 ct16), sl16⟩)
    (c16 : PySem.W.codeIn K cd16 "_stops_wrongly" = true)
    (k16 : PySem.W.keepIn K (.ref f16) = true)
    (a17 : PySem.W.nsIn K mainGlobals "_is_wrong" = some (some (.ref f17)))
    (l17 : K.lookup f17 = some ⟨oc17, od17, .func (PySem.W.fnOf "_is_wrong" "_is_wrong" (defArgs s_is_wrong) (defBody s_is_wrong) (defScope s_is_wrong) .none kV17 dc17 pm17 an17 cd17 ct17), sl17⟩)
    (c17 : PySem.W.codeIn K cd17 "_is_wrong" = true)
    (k17 : PySem.W.keepIn K (.ref f17) = true)
    (a18 : PySem.W.nsIn K mainGlobals "_blocks_of" = some (some (.ref f18)))
    (l18 : K.lookup f18 = some ⟨oc18, od18, .func (PySem.W.fnOf "_blocks_of" "_blocks_of" (defArgs s_blocks_of) (defBody s_blocks_of) (defScope s_blocks_of) .none kV18 dc18 pm18 an18 cd18 ct18), sl18⟩)
    (c18 : PySem.W.codeIn K cd18 "_blocks_of" = true)
    (k18 : PySem.W.keepIn K (.ref f18) = true)
    (a19 : PySem.W.nsIn K mainGlobals "_spaced" = some (some (.ref f19)))
    (l19 : K.lookup f19 = some ⟨oc19, od19, .func (PySem.W.fnOf "_spaced" "_spaced" (defArgs s_spaced) (defBody s_spaced) (defScope s_spaced) .none kV19 dc19 pm19 an19 cd19 ct19), sl19⟩)
    (c19 : PySem.W.codeIn K cd19 "_spaced" = true)
    (k19 : PySem.W.keepIn K (.ref f19) = true)
    (aC : PySem.W.nsIn K mainGlobals "Function" = some (some (.ref C)))
    (pgC : PySem.W.plainGet K C Str.empty = true)
    (hdC : PySem.W.hasDictIn K C = true)
    (poC : PySem.W.plainOver K C = true)
    (saC : PySem.W.findIn K (.ref C) "__setattr__" = some (some (.builtin "object.__setattr__")))
    (mkC : PySem.W.makesIn K C = true)
    (kcC : PySem.W.keepIn K (.ref C) = true)
    (noCrows : PySem.W.findIn K (.ref C) "rows" = some none)
    (noC_blocks : PySem.W.findIn K (.ref C) "_blocks" = some none)
    (noClists : PySem.W.findIn K (.ref C) "lists" = some none)
    (a20 : PySem.W.findIn K (.ref C) "__init__" = some (some (.ref f20)))
    (l20 : K.lookup f20 = some ⟨oc20, od20, .func (PySem.W.fnOf "__init__" "Function.__init__" (defArgs s_FunctionD_initD) (defBody s_FunctionD_initD) (defScope s_FunctionD_initD) .none kV20 dc20 pm20 an20 cd20 ct20), sl20⟩)
    (c20 : PySem.W.codeIn K cd20 "Function.__init__" = true)
    (k20 : PySem.W.keepIn K (.ref f20) = true)
    (i20 : PySem.W.isFn K (.ref f20) = true)
    (a21 : PySem.W.findIn K (.ref C) "block" = some (some (.ref f21)))
    (l21 : K.lookup f21 = some ⟨oc21, od21, .func (PySem.W.fnOf "block" "Function.block" (defArgs s_Function_block) (defBody s_Function_block) (defScope s_Function_block) .none kV21 dc21 pm21 an21 cd21 ct21), sl21⟩)
    (c21 : PySem.W.codeIn K cd21 "Function.block" = true)
    (k21 : PySem.W.keepIn K (.ref f21) = true)
    (i21 : PySem.W.isFn K (.ref f21) = true)
    (a22 : PySem.W.findIn K (.ref C) "_is_shielded" = some (some (.ref f22)))
    (l22 : K.lookup f22 = some ⟨oc22, od22, .func (PySem.W.fnOf "_is_shielded" "Function._is_shielded" (defArgs s_FunctionDis_shielded) (defBody s_FunctionDis_shielded) (defScope s_FunctionDis_shielded) .none kV22 dc22 pm22 an22 cd22 ct22), sl22⟩)
    (c22 : PySem.W.codeIn K cd22 "Function._is_shielded" = true)
    (k22 : PySem.W.keepIn K (.ref f22) = true)
    (i22 : PySem.W.isFn K (.ref f22) = true)
    (a23 : PySem.W.findIn K (.ref C) "_is_step" = some (some (.ref f23)))
    (l23 : K.lookup f23 = some ⟨oc23, od23, .func (PySem.W.fnOf "_is_step" "Function._is_step" (defArgs s_FunctionDis_step) (defBody s_FunctionDis_step) (defScope s_FunctionDis_step) .none kV23 dc23 pm23 an23 cd23 ct23), sl23⟩)
    (c23 : PySem.W.codeIn K cd23 "Function._is_step" = true)
    (k23 : PySem.W.keepIn K (.ref f23) = true)
    (i23 : PySem.W.isFn K (.ref f23) = true)
    (a24 : PySem.W.findIn K (.ref C) "waits" = some (some (.ref f24)))
    (l24 : K.lookup f24 = some ⟨oc24, od24, .func (PySem.W.fnOf "waits" "Function.waits" (defArgs s_Function_waits) (defBody s_Function_waits) (defScope s_Function_waits) .none kV24 dc24 pm24 an24 cd24 ct24), sl24⟩)
    (c24 : PySem.W.codeIn K cd24 "Function.waits" = true)
    (k24 : PySem.W.keepIn K (.ref f24) = true)
    (i24 : PySem.W.isFn K (.ref f24) = true)
    (a25 : PySem.W.findIn K (.ref C) "step_rows" = some (some (.ref f25)))
    (l25 : K.lookup f25 = some ⟨oc25, od25, .func (PySem.W.fnOf "step_rows" "Function.step_rows" (defArgs s_Function_step_rows) (defBody s_Function_step_rows) (defScope s_Function_step_rows) .none kV25 dc25 pm25 an25 cd25 ct25), sl25⟩)
    (c25 : PySem.W.codeIn K cd25 "Function.step_rows" = true)
    (k25 : PySem.W.keepIn K (.ref f25) = true)
    (i25 : PySem.W.isFn K (.ref f25) = true)
    (a26 : PySem.W.findIn K (.ref C) "__len__" = some (some (.ref f26)))
    (l26 : K.lookup f26 = some ⟨oc26, od26, .func (PySem.W.fnOf "__len__" "Function.__len__" (defArgs s_FunctionD_lenD) (defBody s_FunctionD_lenD) (defScope s_FunctionD_lenD) .none kV26 dc26 pm26 an26 cd26 ct26), sl26⟩)
    (c26 : PySem.W.codeIn K cd26 "Function.__len__" = true)
    (k26 : PySem.W.keepIn K (.ref f26) = true)
    (i26 : PySem.W.isFn K (.ref f26) = true)
    (a27 : PySem.W.findIn K (.ref C) "__str__" = some (some (.ref f27)))
    (l27 : K.lookup f27 = some ⟨oc27, od27, .func (PySem.W.fnOf "__str__" "Function.__str__" (defArgs s_FunctionD_strD) (defBody s_FunctionD_strD) (defScope s_FunctionD_strD) .none kV27 dc27 pm27 an27 cd27 ct27), sl27⟩)
    (c27 : PySem.W.codeIn K cd27 "Function.__str__" = true)
    (k27 : PySem.W.keepIn K (.ref f27) = true)
    (i27 : PySem.W.isFn K (.ref f27) = true)
    (a28 : PySem.W.findIn K (.ref C) "__eq__" = some (some (.ref f28)))
    (l28 : K.lookup f28 = some ⟨oc28, od28, .func (PySem.W.fnOf "__eq__" "Function.__eq__" (defArgs s_FunctionD_eqD) (defBody s_FunctionD_eqD) (defScope s_FunctionD_eqD) .none kV28 dc28 pm28 an28 cd28 ct28), sl28⟩)
    (c28 : PySem.W.codeIn K cd28 "Function.__eq__" = true)
    (k28 : PySem.W.keepIn K (.ref f28) = true)
    (i28 : PySem.W.isFn K (.ref f28) = true)
    (zlen : PySem.W.nsIn K mainGlobals "len" = some none)
    (zabs : PySem.W.nsIn K mainGlobals "abs" = some none)
    (zint : PySem.W.nsIn K mainGlobals "int" = some none)
    (zstr : PySem.W.nsIn K mainGlobals "str" = some none)
    (zmin : PySem.W.nsIn K mainGlobals "min" = some none)
    (zmax : PySem.W.nsIn K mainGlobals "max" = some none)
    (zall : PySem.W.nsIn K mainGlobals "all" = some none)
    (zrange : PySem.W.nsIn K mainGlobals "range" = some none)
    (zsorted : PySem.W.nsIn K mainGlobals "sorted" = some none)
    (zlist : PySem.W.nsIn K mainGlobals "list" = some none)
    (ztuple : PySem.W.nsIn K mainGlobals "tuple" = some none)
    (zdict : PySem.W.nsIn K mainGlobals "dict" = some none)
    (zisinstance : PySem.W.nsIn K mainGlobals "isinstance" = some none)
    (zsum : PySem.W.nsIn K mainGlobals "sum" = some none)
    (zenumerate : PySem.W.nsIn K mainGlobals "enumerate" = some none)
    (zset : PySem.W.nsIn K mainGlobals "set" = some none)
    (v_LETTERS : PySem.W.nsIn K mainGlobals "LETTERS" = some (some (.str "abcdefghijklmnopqrstuvwxyz" t_LETTERS)))
    (v_MOST_LETTERS : PySem.W.nsIn K mainGlobals "MOST_LETTERS" = some (some (.int 3 t_MOST_LETTERS)))
    (v_MOST_ROWS : PySem.W.nsIn K mainGlobals "MOST_ROWS" = some (some (.int 24 t_MOST_ROWS)))
    (v_MOST_LISTS : PySem.W.nsIn K mainGlobals "MOST_LISTS" = some (some (.int 3 t_MOST_LISTS)))
    (v_MOST_DEPTH : PySem.W.nsIn K mainGlobals "MOST_DEPTH" = some (some (.int 5 t_MOST_DEPTH)))
    (v_MOST_RETRIES : PySem.W.nsIn K mainGlobals "MOST_RETRIES" = some (some (.int 2 t_MOST_RETRIES)))
    (gO : PySem.W.nsIn K mainGlobals "OPENERS" = some (some (.ref AO)))
    (lO : K.lookup AO = some ⟨.type "tuple", odO, .seq #[.str "each" tO0, .str "maybe" tO1, .str "try" tO2, .str "shield" tO3, .str "retry" tO4] nO, slO⟩)
    (gP : PySem.W.nsIn K mainGlobals "PLAIN" = some (some (.ref AP)))
    (lP : K.lookup AP = some ⟨.type "tuple", odP, .seq #[.str "ask" tP0, .str "begin" tP1, .str "finish" tP2, .str "read" tP3, .str "head" tP4, .str "body" tP5, .str "pause" tP6, .str "check" tP7, .str "drain" tP8, .str "close" tP9, .str "return" tP10] nP, slP⟩)
    (gS : PySem.W.nsIn K mainGlobals "SINGLE" = some (some (.ref AS)))
    (lS : K.lookup AS = some ⟨.type "tuple", odS, .seq #[.str "maybe" tS0, .str "try" tS1, .str "shield" tS2, .str "else" tS3, .str "finally" tS4, .str "rescue" tS5, .str "end" tS6] nS, slS⟩)
    (gT : PySem.W.nsIn K mainGlobals "TRIES" = some (some (.ref AT)))
    (lT : K.lookup AT = some ⟨.type "tuple", odT, .seq #[.str "1" tT0, .str "2" tT1, .str "3" tT2] nT, slT⟩)
    (gW : PySem.W.nsIn K mainGlobals "WAITING" = some (some (.ref AW)))
    (lW : K.lookup AW = some ⟨.type "tuple", odW, .seq #[.str "read" tW0, .str "head" tW1, .str "body" tW2, .str "finish" tW3, .str "pause" tW4] nW, slW⟩)
    (gX : PySem.W.nsIn K mainGlobals "WITHOUT_STEP" = some (some (.ref AX)))
    (lX : K.lookup AX = some ⟨.type "tuple", odX, .seq #[.str "try" tX0, .str "finally" tX1, .str "rescue" tX2, .str "shield" tX3, .str "else" tX4] nX, slX⟩)
    (gM : PySem.W.nsIn K mainGlobals "MIDDLES" = some (some (.ref AM)))
    (lM : K.lookup AM = some ⟨.type "dict", none, .dict esM nM, #[]⟩)
    (mE : esM = #[d1, d2, d3])
    (mk1 : d1.key = .str "else" tm1)
    (mv1 : d1.val = .str "maybe" um1)
    (mh1 : d1.hash = PyData.keyHash w.params "else")
    (mk2 : d2.key = .str "finally" tm2)
    (mv2 : d2.val = .str "try" um2)
    (mh2 : d2.hash = PyData.keyHash w.params "finally")
    (mk3 : d3.key = .str "rescue" tm3)
    (mv3 : d3.val = .str "try" um3)
    (mh3 : d3.hash = PyData.keyHash w.params "rescue")
    (mlow : (AM == sysModules) = false)
    (aCO : PySem.W.nsIn K mainGlobals "OwedError" = some (some (.ref CO)))
    (exCO : PySem.W.subIn K (.ref CO) (.type "BaseException") = some true)
    (hdCO : PySem.W.hasDictIn K CO = true)
    (tyCO : PySem.W.typeIn K (.ref CO) = some (.type "type"))
    (aCB : PySem.W.nsIn K mainGlobals "BadFunction" = some (some (.ref CB)))
    (exCB : PySem.W.subIn K (.ref CB) (.type "BaseException") = some true)
    (hdCB : PySem.W.hasDictIn K CB = true)
    (tyCB : PySem.W.typeIn K (.ref CB) = some (.type "type"))
    (lCB : K.lookup CB = some (PySem.excClassObj nmCB qCB CB NCB bsCB [.ref CO, .type "ValueError", .type "Exception", .type "BaseException", .type "object"] true snCB subCB abCB colCB ddCB k0CB k1CB k2CB k3CB k5CB "ValueError.__new__"))
    (saCB : PySem.W.findIn K (.ref CB) "__setattr__" = some (some (.builtin "object.__setattr__")))
    (kpCB : PySem.W.keepIn K (.ref CB) = true)
    (gaCB : PySem.W.findIn K (.ref CB) "__getattribute__" = some (some (.builtin "BaseException.__getattribute__")))
    (ggCB : PySem.W.findIn K (.ref CB) "__getattr__" = some none)
    (noCB : PySem.W.findIn K (.ref CB) "row" = some none)
    (inCB : PySem.W.findIn K (.ref CB) "__init__" = some (some (.ref fCB)))
    (tfCBi : PySem.W.typeIn K (.ref fCB) = some (.type "function"))
    (lfCB : K.lookup fCB = some ⟨ocCB, odCB, .func (PySem.W.ksFn "__init__" "BadFunction.__init__" (defArgs s_BadFunctionD_initD) (defBody s_BadFunctionD_initD) (defScope s_BadFunctionD_initD) .none kVCB dcCB pmCB anCB (.ref cdaCB) ctCB ccCB), slCB⟩)
    (cdCB : PySem.W.codeIn K (.ref cdaCB) "BadFunction.__init__" = true)
    (lcCB : K.lookup ccCB = some ⟨clCB, cldCB, .cell (some (.ref CB)), cslCB⟩)
    (ldCB : K.lookup cdaCB = some ⟨cclCB, cddCB, .fields fvsCB, ccsCB⟩)
    (flCB : fvsCB[2]? = some (.str fiCB tfCB))
    (pfCB : ((l.prog.main.file : Str) == fiCB) = true)
    (zsuper : PySem.W.nsIn K mainGlobals "super" = some none)
    (zthird : PySem.W.nsIn K cStatics "thirdparty.any" = some none)
    (suCB : PySem.W.mroIn K CB (.ref CB) = some true)
    (svCB : PySem.W.subIn K (.ref CB) (.type "ValueError") = some true)
    (siCB : PySem.W.ks_superIn K CB CB "__init__" = some (some (.builtin "ValueError.__init__")))
    (tops : (l.prog.main.scope.names.lookup ("super" : Str)).isSome = false)
    (aCT : PySem.W.nsIn K mainGlobals "TooMany" = some (some (.ref CT)))
    (exCT : PySem.W.subIn K (.ref CT) (.type "BaseException") = some true)
    (hdCT : PySem.W.hasDictIn K CT = true)
    (tyCT : PySem.W.typeIn K (.ref CT) = some (.type "type"))
    (lCT : K.lookup CT = some (PySem.excClassObj nmCT qCT CT NCT bsCT [.ref CO, .type "ValueError", .type "Exception", .type "BaseException", .type "object"] true snCT subCT abCT colCT ddCT k0CT k1CT k2CT k3CT k5CT "ValueError.__new__"))
    (saCT : PySem.W.findIn K (.ref CT) "__setattr__" = some (some (.builtin "object.__setattr__")))
    (kpCT : PySem.W.keepIn K (.ref CT) = true)
    (gaCT : PySem.W.findIn K (.ref CT) "__getattribute__" = some (some (.builtin "BaseException.__getattribute__")))
    (ggCT : PySem.W.findIn K (.ref CT) "__getattr__" = some none)
    (noCT : PySem.W.findIn K (.ref CT) "what" = some none)
    (inCT : PySem.W.findIn K (.ref CT) "__init__" = some (some (.ref fCT)))
    (tfCTi : PySem.W.typeIn K (.ref fCT) = some (.type "function"))
    (lfCT : K.lookup fCT = some ⟨ocCT, odCT, .func (PySem.W.ksFn "__init__" "TooMany.__init__" (defArgs s_TooManyD_initD) (defBody s_TooManyD_initD) (defScope s_TooManyD_initD) .none kVCT dcCT pmCT anCT (.ref cdaCT) ctCT ccCT), slCT⟩)
    (cdCT : PySem.W.codeIn K (.ref cdaCT) "TooMany.__init__" = true)
    (lcCT : K.lookup ccCT = some ⟨clCT, cldCT, .cell (some (.ref CT)), cslCT⟩)
    (ldCT : K.lookup cdaCT = some ⟨cclCT, cddCT, .fields fvsCT, ccsCT⟩)
    (flCT : fvsCT[2]? = some (.str fiCT tfCT))
    (pfCT : ((l.prog.main.file : Str) == fiCT) = true)
    (suCT : PySem.W.mroIn K CT (.ref CT) = some true)
    (svCT : PySem.W.subIn K (.ref CT) (.type "ValueError") = some true)
    (siCT : PySem.W.ks_superIn K CT CT "__init__" = some (some (.builtin "ValueError.__init__")))
    (g26 : PySem.W.fnIn K f26 = true)
    (g27 : PySem.W.fnIn K f27 = true)
    (haC : PySem.W.findIn K (.ref C) "__class__" = some (some (.builtin "object.__class__")))
    (xn : PySem.W.specialIn K (.builtin "object.__class__") "__get__" = some (some (.builtin "getset_descriptor.__get__")))
    (xt : PySem.W.takesIn K (.builtin "object.__class__") = some true)
    (hmC : PySem.W.mroIn K C (.type "object") = some true)
    (sbI : PySem.W.subIn K (.type "int") (.ref C) = some false)
    (sbS : PySem.W.subIn K (.type "str") (.ref C) = some false)
    (sbT : PySem.W.subIn K (.type "tuple") (.ref C) = some false)
    (isC : PySem.W.isClsIn K C = true)
    (tyC : PySem.W.typeIn K (.ref C) = some (.type "type"))
    (nne : PySem.W.findIn K (.ref C) "__ne__" = some (some (.builtin "object.__ne__")))
    (rd : PySem.W.readsIn K C (.type "type") = true)
    (ga : PySem.W.specialIn K (.ref C) "__getattribute__" = some (some (.builtin "type.__getattribute__")))
    (cm : PySem.W.findCls K (.ref C) (.type "type") "of" = some (.get (.builtin "classmethod.__get__") (.ref pOf) .none (.ref C)))
    (rc : PySem.W.recIn K pOf "classmethod" = some (.ref fOf :: rest))
    (fi : PySem.W.fnIn K fOf = true)
    (l90 : K.lookup fOf = some ⟨oc90, od90, .func (PySem.W.fnOf "of" "Function.of" (defArgs s_Function_of) (defBody s_Function_of) (defScope s_Function_of) .none kV90 dc90 pm90 an90 cd90 ct90), sl90⟩)
    (c90 : PySem.W.codeIn K cd90 "Function.of" = true)
    (k90 : PySem.W.keepIn K (.ref fOf) = true)
    (sCBB : PySem.W.subIn K (.ref CB) (.ref CB) = some true)
    : ∃ fd : FuncData, (∀ (s : Shared) (v : Value), BindsTo s fd ⟨[v], []⟩ [("script", v)]) ∧ ∀ base : Heap, K.In base → base.Ns mainGlobals mg → FnOk l.prog w K mg base CX0 16 fa fd ["script"] (spLaw K) := by
  have e := hfa.symm.trans (PySem.W.mg_of X G a12)
  cases e
  have F0 := fun_mk (st := s_law_bag) l0 c0 k0
  have b0 := F0.binds (ps := ["script", "at"]) fun _ _ _ _ _ _ us hl => match us, hl with | [_, _], _ => rfl
  have F1 := fun_mk (st := s_law_take) l1 c1 k1
  have b1 := F1.binds (ps := ["bag", "many"]) fun _ _ _ _ _ _ us hl => match us, hl with | [_, _], _ => rfl
  have F2 := fun_mk (st := s_law_of) l2 c2 k2
  have b2 := F2.binds (ps := ["bag", "some"]) fun _ _ _ _ _ _ us hl => match us, hl with | [_, _], _ => rfl
  have F3 := fun_mk (st := s_law_names) l3 c3 k3
  have b3 := F3.binds (ps := ["bag"]) fun _ _ _ _ _ _ us hl => match us, hl with | [_], _ => rfl
  have F4 := fun_mk (st := s_law_may_reset) l4 c4 k4
  have b4 := F4.binds (ps := ["around", "word"]) fun _ _ _ _ _ _ us hl => match us, hl with | [_, _], _ => rfl
  have F5 := fun_mk (st := s_law_plain) l5 c5 k5
  have b5 := F5.binds (ps := ["bag", "around"]) fun _ _ _ _ _ _ us hl => match us, hl with | [_, _], _ => rfl
  have F6 := fun_mk (st := s_law_block) l6 c6 k6
  have b6 := F6.binds (ps := ["bag", "names", "left", "around"]) fun _ _ _ _ _ _ us hl => match us, hl with | [_, _, _, _], _ => rfl
  have F7 := fun_mk (st := s_law_group) l7 c7 k7
  have b7 := F7.binds (ps := ["bag", "names", "left", "around"]) fun _ _ _ _ _ _ us hl => match us, hl with | [_, _, _, _], _ => rfl
  have F8 := fun_mk (st := s_law_function) l8 c8 k8
  have b8 := F8.binds (ps := ["bag", "most"]) fun _ _ _ _ _ _ us hl => match us, hl with | [_, _], _ => rfl
  have F9 := fun_mk (st := s_law_spaced) l9 c9 k9
  have b9 := F9.binds (ps := ["bag", "rows"]) fun _ _ _ _ _ _ us hl => match us, hl with | [_, _], _ => rfl
  have F10 := fun_mk (st := s_law_refused) l10 c10 k10
  have b10 := F10.binds (ps := ["some"]) fun _ _ _ _ _ _ us hl => match us, hl with | [_], _ => rfl
  have F11 := fun_mk (st := s_law_more) l11 c11 k11
  have b11 := F11.binds (ps := ["function", "rows"]) fun _ _ _ _ _ _ us hl => match us, hl with | [_, _], _ => rfl
  have F12 := fun_mk (st := s_law) l12 c12 k12
  have b12 := F12.binds (ps := ["script"]) fun _ _ _ _ _ _ us hl => match us, hl with | [_], _ => rfl
  have F13 := fun_mk (st := s_is_list_name) l13 c13 k13
  have b13 := F13.binds (ps := ["text"]) fun _ _ _ _ _ _ us hl => match us, hl with | [_], _ => rfl
  have F14 := fun_mk (st := s_is_written) l14 c14 k14
  have b14 := F14.binds (ps := ["row"]) fun _ _ _ _ _ _ us hl => match us, hl with | [_], _ => rfl
  have F15 := fun_mk (st := s_opens_wrongly) l15 c15 k15
  have b15 := F15.binds (ps := ["word", "parts"]) fun _ _ _ _ _ _ us hl => match us, hl with | [_, _], _ => rfl
  have F16 := fun_mk (st := s_stops_wrongly) l16 c16 k16
  have b16 := F16.binds (ps := ["word", "parts"]) fun _ _ _ _ _ _ us hl => match us, hl with | [_, _], _ => rfl
  have F17 := fun_mk (st := s_is_wrong) l17 c17 k17
  have b17 := F17.binds (ps := ["row", "parts"]) fun _ _ _ _ _ _ us hl => match us, hl with | [_, _], _ => rfl
  have F18 := fun_mk (st := s_blocks_of) l18 c18 k18
  have b18 := F18.binds (ps := ["rows"]) fun _ _ _ _ _ _ us hl => match us, hl with | [_], _ => rfl
  have F19 := fun_mk (st := s_spaced) l19 c19 k19
  have b19 := F19.binds (ps := ["row"]) fun _ _ _ _ _ _ us hl => match us, hl with | [_], _ => rfl
  have clC : Cls K C := ⟨pgC, hdC, poC, saC⟩
  have hC := PySem.W.mg_of X G aC
  have F20 := fun_mk (st := s_FunctionD_initD) l20 c20 k20
  have b20 := F20.binds (ps := ["self", "text"]) fun _ _ _ _ _ _ us hl => match us, hl with | [_, _], _ => rfl
  have F21 := fun_mk (st := s_Function_block) l21 c21 k21
  have b21 := F21.binds (ps := ["self", "row"]) fun _ _ _ _ _ _ us hl => match us, hl with | [_, _], _ => rfl
  have F22 := fun_mk (st := s_FunctionDis_shielded) l22 c22 k22
  have b22 := F22.binds (ps := ["self", "row"]) fun _ _ _ _ _ _ us hl => match us, hl with | [_, _], _ => rfl
  have F23 := fun_mk (st := s_FunctionDis_step) l23 c23 k23
  have b23 := F23.binds (ps := ["self", "row"]) fun _ _ _ _ _ _ us hl => match us, hl with | [_, _], _ => rfl
  have F24 := fun_mk (st := s_Function_waits) l24 c24 k24
  have b24 := F24.binds (ps := ["self"]) fun _ _ _ _ _ _ us hl => match us, hl with | [_], _ => rfl
  have F25 := fun_mk (st := s_Function_step_rows) l25 c25 k25
  have b25 := F25.binds (ps := ["self"]) fun _ _ _ _ _ _ us hl => match us, hl with | [_], _ => rfl
  have F26 := fun_mk (st := s_FunctionD_lenD) l26 c26 k26
  have b26 := F26.binds (ps := ["self"]) fun _ _ _ _ _ _ us hl => match us, hl with | [_], _ => rfl
  have F27 := fun_mk (st := s_FunctionD_strD) l27 c27 k27
  have b27 := F27.binds (ps := ["self"]) fun _ _ _ _ _ _ us hl => match us, hl with | [_], _ => rfl
  have F28 := fun_mk (st := s_FunctionD_eqD) l28 c28 k28
  have b28 := F28.binds (ps := ["self", "other"]) fun _ _ _ _ _ _ us hl => match us, hl with | [_, _], _ => rfl
  have T : Txt mg := ⟨PySem.W.mg_none_of X G zlen, PySem.W.mg_none_of X G zabs, PySem.W.mg_none_of X G zint, PySem.W.mg_none_of X G zstr, PySem.W.mg_none_of X G zmin, PySem.W.mg_none_of X G zmax, PySem.W.mg_none_of X G zall, PySem.W.mg_none_of X G zrange, PySem.W.mg_none_of X G zsorted, PySem.W.mg_none_of X G zlist, PySem.W.mg_none_of X G ztuple, PySem.W.mg_none_of X G zdict, PySem.W.mg_none_of X G zisinstance, PySem.W.mg_none_of X G zsum, ⟨_, PySem.W.mg_of X G v_LETTERS⟩, PySem.W.mg_none_of X G zenumerate, PySem.W.mg_none_of X G zset, ⟨_, PySem.W.mg_of X G v_MOST_LETTERS⟩, ⟨_, PySem.W.mg_of X G v_MOST_ROWS⟩, ⟨_, PySem.W.mg_of X G v_MOST_LISTS⟩, ⟨_, PySem.W.mg_of X G v_MOST_DEPTH⟩, ⟨_, PySem.W.mg_of X G v_MOST_RETRIES⟩⟩
  have R : Fn.FnK K C := ⟨clC, noCrows, noC_blocks, noClists⟩
  have D : Fn.FnD K w mg AO AP AS AT AM esM nM := Fn.fnD_of (PySem.W.mg_of X G gO) (PySem.W.mg_of X G gP) (PySem.W.mg_of X G gS) (PySem.W.mg_of X G gT) (PySem.W.mg_of X G gM) (fun _ => .inr ⟨_, _, _, lO, rfl, rfl, by show 5 ≤ sizeLine; decide, (.cons ⟨_, rfl⟩ (.cons ⟨_, rfl⟩ (.cons ⟨_, rfl⟩ (.cons ⟨_, rfl⟩ (.cons ⟨_, rfl⟩ .nil)))))⟩) (fun _ => .inr ⟨_, _, _, lP, rfl, rfl, by show 11 ≤ sizeLine; decide, (.cons ⟨_, rfl⟩ (.cons ⟨_, rfl⟩ (.cons ⟨_, rfl⟩ (.cons ⟨_, rfl⟩ (.cons ⟨_, rfl⟩ (.cons ⟨_, rfl⟩ (.cons ⟨_, rfl⟩ (.cons ⟨_, rfl⟩ (.cons ⟨_, rfl⟩ (.cons ⟨_, rfl⟩ (.cons ⟨_, rfl⟩ .nil)))))))))))⟩) (fun _ => .inr ⟨_, _, _, lS, rfl, rfl, by show 7 ≤ sizeLine; decide, (.cons ⟨_, rfl⟩ (.cons ⟨_, rfl⟩ (.cons ⟨_, rfl⟩ (.cons ⟨_, rfl⟩ (.cons ⟨_, rfl⟩ (.cons ⟨_, rfl⟩ (.cons ⟨_, rfl⟩ .nil)))))))⟩) (fun _ => .inr ⟨_, _, _, lT, rfl, rfl, by show 3 ≤ sizeLine; decide, (.cons ⟨_, rfl⟩ (.cons ⟨_, rfl⟩ (.cons ⟨_, rfl⟩ .nil)))⟩) lM mE mk1 mk2 mk3 mv1 mv2 mv3 mh1 mh2 mh3 mlow
  have D2 : FnD2 K mg AW AX := ⟨PySem.W.mg_of X G gW, PySem.W.mg_of X G gX, (fun _ => .inr ⟨_, _, _, lW, rfl, rfl, by show 5 ≤ sizeLine; decide, (.cons ⟨_, rfl⟩ (.cons ⟨_, rfl⟩ (.cons ⟨_, rfl⟩ (.cons ⟨_, rfl⟩ (.cons ⟨_, rfl⟩ .nil)))))⟩), (fun _ => .inr ⟨_, _, _, lX, rfl, rfl, by show 5 ≤ sizeLine; decide, (.cons ⟨_, rfl⟩ (.cons ⟨_, rfl⟩ (.cons ⟨_, rfl⟩ (.cons ⟨_, rfl⟩ (.cons ⟨_, rfl⟩ .nil)))))⟩)⟩
  have gCO := PySem.W.mg_of X G aCO
  have gCB := PySem.W.mg_of X G aCB
  have OCB : OexC K CB := ⟨⟨_, _, _, _, _, _, _, _, _, _, _, _, _, _, _, lCB, rfl⟩, saCB, exCB, tyCB, kpCB⟩
  have GCB : ErX.ErC K l.prog CB fCB ccCB cdaCB := ⟨OCB, ⟨_, _, _, lcCB⟩, ⟨_, _, _, _, _, _, ldCB, flCB, pfCB⟩, zsuper, zthird, suCB, svCB, siCB, tops⟩
  have EB : ∀ base : Heap, ErX.ErMk l.prog w K mg base 2 "BadFunction" CB "row" := fun base => ⟨OCB, gCB, ⟨fCB, _, _, inCB, tfCBi, ok_er_BadFunction lfCB cdCB GCB noCB, .all fun us hl => match us, hl with | [_, _], _ => rfl⟩, ⟨gaCB, ggCB, exCB, hdCB⟩, noCB⟩
  have gCT := PySem.W.mg_of X G aCT
  have OCT : OexC K CT := ⟨⟨_, _, _, _, _, _, _, _, _, _, _, _, _, _, _, lCT, rfl⟩, saCT, exCT, tyCT, kpCT⟩
  have GCT : ErX.ErC K l.prog CT fCT ccCT cdaCT := ⟨OCT, ⟨_, _, _, lcCT⟩, ⟨_, _, _, _, _, _, ldCT, flCT, pfCT⟩, zsuper, zthird, suCT, svCT, siCT, tops⟩
  have ET : ∀ base : Heap, ErX.ErMk l.prog w K mg base 2 "TooMany" CT "what" := fun base => ⟨OCT, gCT, ⟨fCT, _, _, inCT, tfCTi, ok_er_TooMany lfCT cdCT GCT noCT, .all fun us hl => match us, hl with | [_, _], _ => rfl⟩, ⟨gaCT, ggCT, exCT, hdCT⟩, noCT⟩
  have c_bag : ∀ base : Heap, Cal l.prog w K mg base "_law_bag" 1 (spBag K) := fun base => ⟨_, _, _, PySem.W.mg_of X G a0, ok_bag F0 T, b0, k0⟩
  have c_take : ∀ base : Heap, Cal l.prog w K mg base "_law_take" 1 spTake := fun base => ⟨_, _, _, PySem.W.mg_of X G a1, ok_take F1 T, b1, k1⟩
  have c_pick : ∀ base : Heap, Cal l.prog w K mg base "_law_of" 2 Fn.spPickV := fun base => ⟨_, _, _, PySem.W.mg_of X G a2, ok_pick F2 T (c_take base), b2, k2⟩
  have c_isl : ∀ base : Heap, Cal l.prog w K mg base "is_list_name" 1 spIsL := fun base => ⟨_, _, _, PySem.W.mg_of X G a13, ok_isl F13 T, b13, k13⟩
  have c_iswr : ∀ base : Heap, Cal l.prog w K mg base "_is_written" 2 Fn.spIsWr := fun base => ⟨_, _, _, PySem.W.mg_of X G a14, ok_iswr F14 T D (c_isl base), b14, k14⟩
  have c_opw : ∀ base : Heap, Cal l.prog w K mg base "_opens_wrongly" 1 (Fn.spOpW K) := fun base => ⟨_, _, _, PySem.W.mg_of X G a15, ok_opw F15 T, b15, k15⟩
  have c_stw : ∀ base : Heap, Cal l.prog w K mg base "_stops_wrongly" 1 (Fn.spStW K) := fun base => ⟨_, _, _, PySem.W.mg_of X G a16, ok_stw F16 T, b16, k16⟩
  have c_isw : ∀ base : Heap, Cal l.prog w K mg base "_is_wrong" 3 (Fn.spIsW K) := fun base => ⟨_, _, _, PySem.W.mg_of X G a17, ok_isw F17 T D (c_iswr base) (c_opw base) (c_stw base), b17, k17⟩
  have c_spaced : ∀ base : Heap, Cal l.prog w K mg base "_spaced" 1 Fn.spSpaced := fun base => ⟨_, _, _, PySem.W.mg_of X G a19, ok_spaced F19 T, b19, k19⟩
  have c_blocks : ∀ base : Heap, ErX.CalX l.prog w K mg base "_blocks_of" 4 (Fn.spBlocks K CB) := fun base => ⟨_, PySem.W.mg_of X G a18, ((ok_blocks F18 T D (EB base) (c_isw base)).raw b18 .nil).imp fun vs H Q E h => by show Fn.spBlocks K CB (vs ++ []) H Q E; rw [List.append_nil]; exact h, k18⟩
  have M : Mk K C f20 := ⟨mkC, a20, i20, kcC⟩
  have c_mk : ∀ base : Heap, ErX.MakX l.prog w K mg base "Function" C 5 (Fn.spFInit C CB CT) := fun base => ⟨hC, _, M, ((ok_finit F20 T D R (EB base) (ET base) (c_spaced base) (c_blocks base)).raw b20 .nil).imp fun vs H Q E h => by show Fn.spFInit C CB CT (vs ++ []) H Q E; rw [List.append_nil]; exact h⟩
  have c_names : ∀ base : Heap, Cal l.prog w K mg base "_law_names" 2 Fn.spNames := fun base => ⟨_, _, _, PySem.W.mg_of X G a3, ok_names F3 T (c_take base), b3, k3⟩
  have c_mayr : ∀ base : Heap, Cal l.prog w K mg base "_law_may_reset" 1 (Fn.spMayR K) := fun base => ⟨_, _, _, PySem.W.mg_of X G a4, ok_mayr F4 T, b4, k4⟩
  have c_plain : ∀ base : Heap, Cal l.prog w K mg base "_law_plain" 3 Fn.spPlainR := fun base => ⟨_, _, _, PySem.W.mg_of X G a5, ok_plainR F5 T (c_mayr base) (c_pick base), b5, k5⟩
  have c_blockF : ∀ base : Heap, Cal l.prog w K mg base "_law_block" 3 (fun _ _ _ _ => False) := fun base => ⟨_, _, _, PySem.W.mg_of X G a6, ⟨fun _ _ _ _ h => h.elim, fun _ _ _ _ _ _ _ _ _ _ _ _ _ h => h.elim⟩, b6, k6⟩
  have c_group0 : ∀ base : Heap, Cal l.prog w K mg base "_law_group" 4 (Fn.spGrp 0) := fun base => ⟨_, _, _, PySem.W.mg_of X G a7, ok_group (by decide) (fun e h => by cases h) F7 T (c_take base) (c_plain base) (c_blockF base), b7, k7⟩
  have c_block0 : ∀ base : Heap, Cal l.prog w K mg base "_law_block" 5 (Fn.spBlk 0) := fun base => ⟨_, _, _, PySem.W.mg_of X G a6, ok_block (by decide) F6 T (c_take base) (c_pick base) (c_group0 base), b6, k6⟩
  have c_group1 : ∀ base : Heap, Cal l.prog w K mg base "_law_group" 6 (Fn.spGrp 1) := fun base => ⟨_, _, _, PySem.W.mg_of X G a7, ok_group (by decide) (fun e h => by cases h; rfl) F7 T (c_take base) (c_plain base) (c_block0 base), b7, k7⟩
  have c_block1 : ∀ base : Heap, Cal l.prog w K mg base "_law_block" 7 (Fn.spBlk 1) := fun base => ⟨_, _, _, PySem.W.mg_of X G a6, ok_block (by decide) F6 T (c_take base) (c_pick base) (c_group1 base), b6, k6⟩
  have c_group2 : ∀ base : Heap, Cal l.prog w K mg base "_law_group" 8 (Fn.spGrp 2) := fun base => ⟨_, _, _, PySem.W.mg_of X G a7, ok_group (by decide) (fun e h => by cases h; rfl) F7 T (c_take base) (c_plain base) (c_block1 base), b7, k7⟩
  have c_block2 : ∀ base : Heap, Cal l.prog w K mg base "_law_block" 9 (Fn.spBlk 2) := fun base => ⟨_, _, _, PySem.W.mg_of X G a6, ok_block (by decide) F6 T (c_take base) (c_pick base) (c_group2 base), b6, k6⟩
  have c_group3 : ∀ base : Heap, Cal l.prog w K mg base "_law_group" 10 (Fn.spGrp 3) := fun base => ⟨_, _, _, PySem.W.mg_of X G a7, ok_group (by decide) (fun e h => by cases h; rfl) F7 T (c_take base) (c_plain base) (c_block2 base), b7, k7⟩
  have c_block3 : ∀ base : Heap, Cal l.prog w K mg base "_law_block" 11 (Fn.spBlk 3) := fun base => ⟨_, _, _, PySem.W.mg_of X G a6, ok_block (by decide) F6 T (c_take base) (c_pick base) (c_group3 base), b6, k6⟩
  have c_group4 : ∀ base : Heap, Cal l.prog w K mg base "_law_group" 12 (Fn.spGrp 4) := fun base => ⟨_, _, _, PySem.W.mg_of X G a7, ok_group (by decide) (fun e h => by cases h; rfl) F7 T (c_take base) (c_plain base) (c_block3 base), b7, k7⟩
  have c_block4 : ∀ base : Heap, Cal l.prog w K mg base "_law_block" 13 (Fn.spBlk 4) := fun base => ⟨_, _, _, PySem.W.mg_of X G a6, ok_block (by decide) F6 T (c_take base) (c_pick base) (c_group4 base), b6, k6⟩
  have c_group5 : ∀ base : Heap, Cal l.prog w K mg base "_law_group" 14 (Fn.spGrp 5) := fun base => ⟨_, _, _, PySem.W.mg_of X G a7, ok_group (by decide) (fun e h => by cases h; rfl) F7 T (c_take base) (c_plain base) (c_block4 base), b7, k7⟩
  have c_function : ∀ base : Heap, Cal l.prog w K mg base "_law_function" 15 Fn.spFun := fun base => ⟨_, _, _, PySem.W.mg_of X G a8, ok_function (by decide) F8 T (c_names base) (c_plain base) (c_group5 base), b8, k8⟩
  have c_fblock : ∀ base : Heap, CalM l.prog w K mg base C "block" 1 (Fn.spBlock1 C) := fun base => ⟨clC, _, _, _, ⟨a21, i21, k21⟩, ok_fblock F21 T R, b21⟩
  have c_shd : ∀ base : Heap, CalM l.prog w K mg base C "_is_shielded" 2 (Fn.spShd C) := fun base => ⟨clC, _, _, _, ⟨a22, i22, k22⟩, ok_shd F22 T R (c_fblock base), b22⟩
  have c_stp : ∀ base : Heap, CalM l.prog w K mg base C "_is_step" 2 (Fn.spStp C) := fun base => ⟨clC, _, _, _, ⟨a23, i23, k23⟩, ok_stp F23 T R D2 (c_fblock base), b23⟩
  have c_waits : ∀ base : Heap, CalM l.prog w K mg base C "waits" 3 (Fn.spWts C) := fun base => ⟨clC, _, _, _, ⟨a24, i24, k24⟩, ok_waits F24 T R D2 (c_shd base), b24⟩
  have c_steps : ∀ base : Heap, CalM l.prog w K mg base C "step_rows" 3 (Fn.spSts C) := fun base => ⟨clC, _, _, _, ⟨a25, i25, k25⟩, ok_steps F25 T R (c_stp base), b25⟩
  have c_len : ∀ base : Heap, OpX.CalG l.prog w K mg base C "__len__" 1 (Fn.spFLen C) := fun base => ⟨_, _, _, a26, i26, g26, ok_flen F26 T R, b26⟩
  have c_str : ∀ base : Heap, OpX.CalG l.prog w K mg base C "__str__" 1 (Fn.spFStr C) := fun base => ⟨_, _, _, a27, i27, g27, ok_fstr F27 T R, b27⟩
  have kS : PySem.W.kitOne K (.type "str") (.ref C) = some false := by
    unfold PySem.W.kitOne PySem.W.kitCls
    rw [if_neg (by simp)]
    show (if ((PySem.W.clsIn K C).isSome && PySem.W.typeIn K (.ref C) == some (.type "type")) = true then PySem.W.subIn K (.type "str") (.ref C) else none) = some false
    rw [if_pos (by rw [tyC, show (PySem.W.clsIn K C).isSome = true from isC]; simp)]
    exact sbS
  have kT : PySem.W.kitOne K (.type "tuple") (.ref C) = some false := by
    unfold PySem.W.kitOne PySem.W.kitCls
    rw [if_neg (by simp)]
    show (if ((PySem.W.clsIn K C).isSome && PySem.W.typeIn K (.ref C) == some (.type "type")) = true then PySem.W.subIn K (.type "tuple") (.ref C) else none) = some false
    rw [if_pos (by rw [tyC, show (PySem.W.clsIn K C).isSome = true from isC]; simp)]
    exact sbT
  have RT : Fn.FnT K C := ⟨haC, xn, xt, hmC⟩
  have N : OpX.NeC K C := ⟨nne, hmC⟩
  have c_eq : ∀ base : Heap, OpX.CalE l.prog w K mg base C 1 (Fn.spFEq2 C) := fun base => ⟨_, _, _, ⟨a28, i28, sbI, sbS, sbT⟩, ok_feq F28 T R RT kS kT hC, b28⟩
  have F90 := fun_mk (st := s_Function_of) l90 c90 k90
  have c_mkL : ∀ base : Heap, ErX.MakL l.prog w K mg base C 5 (Fn.spFInit C CB CT) := fun base => ⟨(c_mk base).ex⟩
  have c_of : ∀ base : Heap, ErX.ClmX l.prog w K mg base C "of" 7 (Fn.spOfF C CB) := fun base => ⟨.type "type", pOf, fOf, ⟨rd, ga⟩, ⟨cm, ⟨rest, rc⟩, fi⟩, ok_of F90 T (c_mkL base)⟩
  have hBB := PySem.W.exm_ref exCB hdCB tyCB sCBB
  have c_lspaced : ∀ base : Heap, Cal l.prog w K mg base "_law_spaced" 2 (Fn.spLSpaced K) := fun base => ⟨_, _, _, PySem.W.mg_of X G a9, ok_lspaced F9 T (c_take base), b9, k9⟩
  have c_lrefused : ∀ base : Heap, Cal l.prog w K mg base "_law_refused" 8 (Fn.spLRef K) := fun base => ⟨_, _, _, PySem.W.mg_of X G a10, ok_lrefused F10 T hC gCB (EB base) hBB (c_of base), b10, k10⟩
  have c_more : ∀ base : Heap, Cal l.prog w K mg base "_law_more" 9 (Fn.spLMore K C) := fun base => ⟨_, _, _, PySem.W.mg_of X G a11, ok_more F11 T R hC (c_of base) (c_lrefused base) (c_str base) (c_waits base) (c_steps base), b11, k11⟩
  refine ⟨_, fun s v => .of_eq rfl, fun base _ _ => ok_law F12 T T.n_set T.n_str R RT N hC (c_bag base) (c_take base) (c_pick base) (c_function base) (c_lspaced base) (c_mk base) (c_of base) (c_more base) (c_len base) (c_str base) (c_eq base)⟩
theorem walk {l : PySem.W.OpenLaw} {q : Program} {loose : List Str} {XP : (Str → Option Value) → Heap → Prop} {YP : World → Heap → Prop} {d : DefRec} {K : Params → PySem.W.Frag} (hn : l.most = some 63) (hdf : d.params.defaults = [])
    (hY : ∀ (w : World) (h : Heap), YP w h → (K w.params).In h)
    (F : ∀ (w : World) (mg : Str → Option Value) (fa : Addr) (h : Heap), (K w.params).In h → h.Ns mainGlobals mg → mg d.name = some (.ref fa) →
      ∃ fd : FuncData, (∀ (s : Shared) (u : Value), BindsTo s fd ⟨[u], []⟩ [("script", u)]) ∧ ∀ base : Heap, (K w.params).In base → base.Ns mainGlobals mg → FnOk l.prog w (K w.params) mg base CX0 16 fa fd ["script"] (spLaw (K w.params))) :
    PySem.W.WalkO q loose XP YP l.row.toRowW d [] (fun f vs => PySem.call f vs) :=
  L2.walk_of (n := 63) (k := 16) (x := "script") (CX := fun _ => CX0) (sp := fun w => spLaw (K w.params)) hn (by decide) hdf ⟨rfl, by decide, by decide⟩ hY F (fun _ _ a ns hl _ hS => ⟨a, ns, rfl, hS, hl, fun _ => rfl⟩) fun _ _ _ _ _ z => z
end Ow

open PySem PySem.W PyProof.Rows in
set_option maxRecDepth 100000 in
set_option maxHeartbeats 0 in
theorem PySem.Challenge.cw_owedanswers_k11_functions_read_holds : PySem.Challenge.rw_owedanswers_k11_functions_read.Holds := by
  w_on; o_law; k_head; (case hw => w_witness2)
  k_fill
  refine Ow.walk (l := PySem.Challenge.rw_owedanswers_k11_functions_read) rfl rfl (fun w h Y => PySem.W.kIn_of Y) ?F
  case F =>
    intro w mg fa h KX G hmg
    refine' Ow.all_mk KX G hmg ?a0 ?l0 ?c0 ?k0 ?a1 ?l1 ?c1 ?k1 ?a2 ?l2 ?c2 ?k2 ?a3 ?l3 ?c3 ?k3 ?a4 ?l4 ?c4 ?k4 ?a5 ?l5 ?c5 ?k5 ?a6 ?l6 ?c6 ?k6 ?a7 ?l7 ?c7 ?k7 ?a8 ?l8 ?c8 ?k8 ?a9 ?l9 ?c9 ?k9 ?a10 ?l10 ?c10 ?k10 ?a11 ?l11 ?c11 ?k11 ?a12 ?l12 ?c12 ?k12 ?a13 ?l13 ?c13 ?k13 ?a14 ?l14 ?c14 ?k14 ?a15 ?l15 ?c15 ?k15 ?a16 ?l16 ?c16 ?k16 ?a17 ?l17 ?c17 ?k17 ?a18 ?l18 ?c18 ?k18 ?a19 ?l19 ?c19 ?k19 ?aC ?pgC ?hdC ?poC ?saC ?mkC ?kcC ?noCrows ?noC_blocks ?noClists ?a20 ?l20 ?c20 ?k20 ?i20 ?a21 ?l21 ?c21 ?k21 ?i21 ?a22 ?l22 ?c22 ?k22 ?i22 ?a23 ?l23 ?c23 ?k23 ?i23 ?a24 ?l24 ?c24 ?k24 ?i24 ?a25 ?l25 ?c25 ?k25 ?i25 ?a26 ?l26 ?c26 ?k26 ?i26 ?a27 ?l27 ?c27 ?k27 ?i27 ?a28 ?l28 ?c28 ?k28 ?i28 ?zlen ?zabs ?zint ?zstr ?zmin ?zmax ?zall ?zrange ?zsorted ?zlist ?ztuple ?zdict ?zisinstance ?zsum ?zenumerate ?zset ?v_LETTERS ?v_MOST_LETTERS ?v_MOST_ROWS ?v_MOST_LISTS ?v_MOST_DEPTH ?v_MOST_RETRIES ?gO ?lO ?gP ?lP ?gS ?lS ?gT ?lT ?gW ?lW ?gX ?lX ?gM ?lM ?mE ?mk1 ?mv1 ?mh1 ?mk2 ?mv2 ?mh2 ?mk3 ?mv3 ?mh3 ?mlow ?aCO ?exCO ?hdCO ?tyCO ?aCB ?exCB ?hdCB ?tyCB ?lCB ?saCB ?kpCB ?gaCB ?ggCB ?noCB ?inCB ?tfCBi ?lfCB ?cdCB ?lcCB ?ldCB ?flCB ?pfCB ?zsuper ?zthird ?suCB ?svCB ?siCB ?tops ?aCT ?exCT ?hdCT ?tyCT ?lCT ?saCT ?kpCT ?gaCT ?ggCT ?noCT ?inCT ?tfCTi ?lfCT ?cdCT ?lcCT ?ldCT ?flCT ?pfCT ?suCT ?svCT ?siCT ?g26 ?g27 ?haC ?xn ?xt ?hmC ?sbI ?sbS ?sbT ?isC ?tyC ?nne ?rd ?ga ?cm ?rc ?fi ?l90 ?c90 ?k90 ?sCBB
    (case a0 => k_is)
    (case l0 => k_is)
    (case c0 => k_is)
    (case k0 => k_is)
    (case a1 => k_is)
    (case l1 => k_is)
    (case c1 => k_is)
    (case k1 => k_is)
    (case a2 => k_is)
    (case l2 => k_is)
    (case c2 => k_is)
    (case k2 => k_is)
    (case a3 => k_is)
    (case l3 => k_is)
    (case c3 => k_is)
    (case k3 => k_is)
    (case a4 => k_is)
    (case l4 => k_is)
    (case c4 => k_is)
    (case k4 => k_is)
    (case a5 => k_is)
    (case l5 => k_is)
    (case c5 => k_is)
    (case k5 => k_is)
    (case a6 => k_is)
    (case l6 => k_is)
    (case c6 => k_is)
    (case k6 => k_is)
    (case a7 => k_is)
    (case l7 => k_is)
    (case c7 => k_is)
    (case k7 => k_is)
    (case a8 => k_is)
    (case l8 => k_is)
    (case c8 => k_is)
    (case k8 => k_is)
    (case a9 => k_is)
    (case l9 => k_is)
    (case c9 => k_is)
    (case k9 => k_is)
    (case a10 => k_is)
    (case l10 => k_is)
    (case c10 => k_is)
    (case k10 => k_is)
    (case a11 => k_is)
    (case l11 => k_is)
    (case c11 => k_is)
    (case k11 => k_is)
    (case a12 => k_is)
    (case l12 => k_is)
    (case c12 => k_is)
    (case k12 => k_is)
    (case a13 => k_is)
    (case l13 => k_is)
    (case c13 => k_is)
    (case k13 => k_is)
    (case a14 => k_is)
    (case l14 => k_is)
    (case c14 => k_is)
    (case k14 => k_is)
    (case a15 => k_is)
    (case l15 => k_is)
    (case c15 => k_is)
    (case k15 => k_is)
    (case a16 => k_is)
    (case l16 => k_is)
    (case c16 => k_is)
    (case k16 => k_is)
    (case a17 => k_is)
    (case l17 => k_is)
    (case c17 => k_is)
    (case k17 => k_is)
    (case a18 => k_is)
    (case l18 => k_is)
    (case c18 => k_is)
    (case k18 => k_is)
    (case a19 => k_is)
    (case l19 => k_is)
    (case c19 => k_is)
    (case k19 => k_is)
    (case aC => k_is)
    (case pgC => k_is)
    (case hdC => k_is)
    (case poC => k_is)
    (case saC => k_is)
    (case mkC => k_is)
    (case kcC => k_is)
    (case noCrows => k_is)
    (case noC_blocks => k_is)
    (case noClists => k_is)
    (case a20 => k_is)
    (case l20 => k_is)
    (case c20 => k_is)
    (case k20 => k_is)
    (case i20 => k_is)
    (case a21 => k_is)
    (case l21 => k_is)
    (case c21 => k_is)
    (case k21 => k_is)
    (case i21 => k_is)
    (case a22 => k_is)
    (case l22 => k_is)
    (case c22 => k_is)
    (case k22 => k_is)
    (case i22 => k_is)
    (case a23 => k_is)
    (case l23 => k_is)
    (case c23 => k_is)
    (case k23 => k_is)
    (case i23 => k_is)
    (case a24 => k_is)
    (case l24 => k_is)
    (case c24 => k_is)
    (case k24 => k_is)
    (case i24 => k_is)
    (case a25 => k_is)
    (case l25 => k_is)
    (case c25 => k_is)
    (case k25 => k_is)
    (case i25 => k_is)
    (case a26 => k_is)
    (case l26 => k_is)
    (case c26 => k_is)
    (case k26 => k_is)
    (case i26 => k_is)
    (case a27 => k_is)
    (case l27 => k_is)
    (case c27 => k_is)
    (case k27 => k_is)
    (case i27 => k_is)
    (case a28 => k_is)
    (case l28 => k_is)
    (case c28 => k_is)
    (case k28 => k_is)
    (case i28 => k_is)
    (case zlen => k_is)
    (case zabs => k_is)
    (case zint => k_is)
    (case zstr => k_is)
    (case zmin => k_is)
    (case zmax => k_is)
    (case zall => k_is)
    (case zrange => k_is)
    (case zsorted => k_is)
    (case zlist => k_is)
    (case ztuple => k_is)
    (case zdict => k_is)
    (case zisinstance => k_is)
    (case zsum => k_is)
    (case zenumerate => k_is)
    (case zset => k_is)
    (case v_LETTERS => k_is)
    (case v_MOST_LETTERS => k_is)
    (case v_MOST_ROWS => k_is)
    (case v_MOST_LISTS => k_is)
    (case v_MOST_DEPTH => k_is)
    (case v_MOST_RETRIES => k_is)
    (case gO => k_is)
    (case lO => k_is)
    (case gP => k_is)
    (case lP => k_is)
    (case gS => k_is)
    (case lS => k_is)
    (case gT => k_is)
    (case lT => k_is)
    (case gW => k_is)
    (case lW => k_is)
    (case gX => k_is)
    (case lX => k_is)
    (case gM => k_is)
    (case lM => k_is)
    (case mE => rfl)
    (case mk1 => rfl)
    (case mv1 => rfl)
    (case mh1 => rfl)
    (case mk2 => rfl)
    (case mv2 => rfl)
    (case mh2 => rfl)
    (case mk3 => rfl)
    (case mv3 => rfl)
    (case mh3 => rfl)
    (case mlow => rfl)
    (case aCO => k_is)
    (case exCO => k_is)
    (case hdCO => k_is)
    (case tyCO => k_is)
    (case aCB => k_is)
    (case exCB => k_is)
    (case hdCB => k_is)
    (case tyCB => k_is)
    (case lCB => k_is)
    (case saCB => k_is)
    (case kpCB => k_is)
    (case gaCB => k_is)
    (case ggCB => k_is)
    (case noCB => k_is)
    (case inCB => k_is)
    (case tfCBi => k_is)
    (case lfCB => k_is)
    (case cdCB => k_is)
    (case lcCB => k_is)
    (case ldCB => k_is)
    (case flCB => rfl)
    (case pfCB => rfl)
    (case zsuper => k_is)
    (case zthird => k_is)
    (case suCB => k_is)
    (case svCB => k_is)
    (case siCB => ks_is)
    (case tops => rfl)
    (case aCT => k_is)
    (case exCT => k_is)
    (case hdCT => k_is)
    (case tyCT => k_is)
    (case lCT => k_is)
    (case saCT => k_is)
    (case kpCT => k_is)
    (case gaCT => k_is)
    (case ggCT => k_is)
    (case noCT => k_is)
    (case inCT => k_is)
    (case tfCTi => k_is)
    (case lfCT => k_is)
    (case cdCT => k_is)
    (case lcCT => k_is)
    (case ldCT => k_is)
    (case flCT => rfl)
    (case pfCT => rfl)
    (case suCT => k_is)
    (case svCT => k_is)
    (case siCT => ks_is)
    (case g26 => k_is)
    (case g27 => k_is)
    (case haC => k_is)
    (case xn => k_is)
    (case xt => k_is)
    (case hmC => k_is)
    (case sbI => k_is)
    (case sbS => k_is)
    (case sbT => k_is)
    (case isC => k_is)
    (case tyC => k_is)
    (case nne => k_is)
    (case rd => k_is)
    (case ga => k_is)
    (case cm => k_is)
    (case rc => k_is)
    (case fi => k_is)
    (case l90 => k_is)
    (case c90 => k_is)
    (case k90 => k_is)
    (case sCBB => k_is)
