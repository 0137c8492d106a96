/-
  Joined: POver, PEnts2, Within, PEnts3, PEnc, PNt.
-/
import Derived.Test.YtfnhmpcpeahfkaaGreatW31
set_option linter.unusedSimpArgs false
set_option linter.unusedVariables false
set_option maxRecDepth 100000
set_option maxHeartbeats 8000000
namespace Go.Proofs.YtfnhmpcpeahfkaaGreat.Tree
open Go.RowKit Pages
def ovr:List En→List Ch→List En
 | [],cs=>tellE cs
 | x :: es,cs=>tellE (cs.take (srch cs x.e.key))++((if fnd cs x.e.key=true then [] else [x])++ovr es (cs.drop (srch cs x.e.key)))
theorem foldl_ovr:∀ (es:List En) (a:List En×List Ch),(es.foldl stepO a).1++tellE (es.foldl stepO a).2=a.1++ovr es a.2
 | [],a=>rfl
 | x :: es,a=>by
  rw [List.foldl_cons,foldl_ovr es (stepO a x)]
  simp [stepO,ovr,List.append_assoc]
theorem overE_ovr (es:List En) (cs:List Ch):overE es cs=ovr es cs:=by
 have:=foldl_ovr es ([],cs)
 simpa [overE,foldO] using this
def RiseE (es:List En):Prop:=es.Pairwise (fun a b=>lt a.e.key b.e.key=true)
theorem mem_tell {cs:List Ch} {y:En}:y∈tellE cs↔∃ c∈cs,c.gone=false∧y=chE c:=by
 unfold tellE
 simp only [List.mem_map,List.mem_filter,Bool.not_eq_true']
 constructor
 ·rintro⟨c,⟨h1,h2⟩,rfl⟩;exact⟨c,h1,h2,rfl⟩
 ·rintro⟨c,h1,h2,rfl⟩;exact⟨c,⟨h1,h2⟩,rfl⟩
theorem take_lt {cs:List Ch} {k:ByteArray} {c:Ch} (h:c∈cs.take (srch cs k)):lt c.key k=true:=by
 obtain⟨i,hi,rfl⟩:=List.getElem_of_mem h
 rw [List.length_take] at hi
 rw [List.getElem_take]
 obtain⟨_,h'⟩:=srch_lt (cs:=cs) (k:=k) (i:=i) (by omega)
 exact h'
theorem drop_le {cs:List Ch} (hr:Rise cs) {k:ByteArray} {c:Ch} (h:c∈cs.drop (srch cs k)):lt c.key k=false:=by
 obtain⟨i,hi,rfl⟩:=List.getElem_of_mem h
 rw [List.length_drop] at hi
 rw [List.getElem_drop]
 exact srch_ge hr (by omega) (by omega)
theorem fnd_iff {cs:List Ch} (hr:Rise cs) (k:ByteArray):fnd cs k=true↔∃ c∈cs,c.key=k:=by
 unfold fnd
 cases h:cs[srch cs k]? with
 | none =>
  simp only [Bool.false_eq_true,false_iff]
  rintro⟨c,hc,rfl⟩
  rw [List.getElem?_eq_none_iff] at h
  obtain⟨i,hi,rfl⟩:=List.getElem_of_mem hc
  obtain⟨_,h'⟩:=srch_lt (cs:=cs) (k:=cs[i].key) (i:=i) (by omega)
  rw [lt_irrefl] at h';cases h'
 | some c =>
  obtain⟨hi,hc⟩:=List.getElem?_eq_some_iff.1 h
  have hge:lt c.key k=false:=by rw [← hc];exact srch_ge hr (jU _) hi
  simp only [Bool.not_eq_true']
  constructor
  ·intro hl
   exact⟨c,hc▸List.getElem_mem hi,lt_total hge hl⟩
  ·rintro⟨d,hd,rfl⟩
   obtain⟨j,hj,rfl⟩:=List.getElem_of_mem hd
   rcases Nat.lt_trichotomy j (srch cs cs[j].key) with h1|h1|h1
   ·obtain⟨_,h'⟩:=srch_lt h1
    rw [lt_irrefl] at h';cases h'
   ·have:cs[j]=c:=by rw [← hc];congr 1
    rw [← this];exact lt_irrefl _
   ·have hp:=List.pairwise_iff_getElem.1 hr _ j hi hj h1
    rw [hc] at hp
    rw [hge] at hp;cases hp
theorem mem_split {cs:List Ch} (n:Nat) {c:Ch}:c∈cs↔c∈cs.take n∨c∈cs.drop n:=by
 conv=>lhs;rw [← List.take_append_drop n cs]
 exact List.mem_append
theorem mem_ovr:∀ (es:List En) (cs:List Ch),RiseE es→Rise cs→∀ y,y∈ovr es cs↔(∃ c∈cs,c.gone=false∧y=chE c)∨(y∈es∧∀ c∈cs,c.key≠y.e.key)
 | [],cs,_,_,y=>by simp only [ovr,mem_tell,List.not_mem_nil,false_and,or_false]
 | x :: es,cs,he,hr,y=>by
  have hrd:Rise (cs.drop (srch cs x.e.key)):=List.Pairwise.sublist (List.drop_sublist _ _) hr
  obtain⟨hx,he'⟩:=List.pairwise_cons.1 he
  simp only [ovr,List.mem_append,mem_tell,mem_ovr es _ he' hrd y]
  have hfi:=fnd_iff hr x.e.key
  constructor
  ·rintro(⟨c,hc,hg,rfl⟩|hy|⟨c,hc,hg,rfl⟩|⟨hy,hn⟩)
   ·exact .inl ⟨c,List.mem_of_mem_take hc,hg,rfl⟩
   ·split at hy
    ·simp at hy
    ·rename_i hf
     obtain rfl:=List.mem_singleton.1 hy
     exact .inr ⟨by simp,fun c hc e=>hf (hfi.2 ⟨c,hc,e⟩)⟩
   ·exact .inl ⟨c,List.mem_of_mem_drop hc,hg,rfl⟩
   ·refine .inr ⟨List.mem_cons_of_mem _ hy,fun c hc e=>?_⟩
    rcases (mem_split (srch cs x.e.key)).1 hc with h|h
    ·have h1:=take_lt h
     have h2:=lt_trans h1 (hx y hy)
     rw [e,lt_irrefl] at h2;cases h2
    ·exact hn c h e
  ·rintro(⟨c,hc,hg,rfl⟩|⟨hy,hn⟩)
   ·rcases (mem_split (srch cs x.e.key)).1 hc with h|h
    ·exact .inl ⟨c,h,hg,rfl⟩
    ·exact .inr (.inr (.inl ⟨c,h,hg,rfl⟩))
   ·rcases List.mem_cons.1 hy with rfl|hy
    ·refine .inr (.inl ?_)
     rw [if_neg (fun hf=>by obtain⟨c,hc,e⟩:=hfi.1 hf;exact hn c hc e)]
     simp
    ·exact .inr (.inr (.inr ⟨hy,fun c hc=>hn c (List.mem_of_mem_drop hc)⟩))
theorem rise_tell {cs:List Ch} (hr:Rise cs):RiseE (tellE cs):=by
 unfold tellE RiseE
 rw [List.pairwise_map]
 exact List.Pairwise.filter _ hr
theorem rise_ovr:∀ (es:List En) (cs:List Ch),RiseE es→Rise cs→RiseE (ovr es cs)
 | [],cs,_,hr=>rise_tell hr
 | x :: es,cs,he,hr=>by
  have hrd:Rise (cs.drop (srch cs x.e.key)):=List.Pairwise.sublist (List.drop_sublist _ _) hr
  obtain⟨hx,he'⟩:=List.pairwise_cons.1 he
  have hrest:∀ y∈ovr es (cs.drop (srch cs x.e.key)),lt y.e.key x.e.key=false∧(fnd cs x.e.key=false→lt x.e.key y.e.key=true):=by
   intro y hy
   rcases (mem_ovr es _ he' hrd y).1 hy with⟨c,hc,_,rfl⟩|⟨hy,_⟩
   ·have h1:=drop_le hr hc
    refine⟨h1,fun hf=>?_⟩
    cases h2:lt x.e.key c.key with
    | true=>exact h2
    | false =>
     have:=(fnd_iff hr x.e.key).2 ⟨c,List.mem_of_mem_drop hc,lt_total h1 h2⟩
     rw [hf] at this;cases this
   ·exact⟨lt_asymm (hx y hy),fun _=>hx y hy⟩
  have htk:∀ y∈tellE (cs.take (srch cs x.e.key)),lt y.e.key x.e.key=true:=by
   intro y hy
   obtain⟨c,hc,_,rfl⟩:=mem_tell.1 hy
   exact take_lt hc
  have ih:=rise_ovr es _ he' hrd
  simp only [ovr]
  refine List.pairwise_append.2 ⟨rise_tell (List.Pairwise.sublist (List.take_sublist _ _) hr),List.pairwise_append.2 ⟨?_,ih,?_⟩,?_⟩
  ·split<;>simp
  ·intro a ha b hb
   split at ha
   ·simp at ha
   ·rename_i hf
    obtain rfl:=List.mem_singleton.1 ha
    exact(hrest b hb).2 (by simpa using hf)
  ·intro a ha b hb
   rcases List.mem_append.1 hb with hb|hb
   ·split at hb
    ·simp at hb
    ·obtain rfl:=List.mem_singleton.1 hb
     exact htk a ha
   ·exact lt_of_lt_of_le (htk a ha) (not_lt.1 (hrest b hb).1)
theorem parts_pair {α:Type}:∀ (s:Sp) (ks:List ByteArray) (kids:List α),kids.length=ks.length+1→ks.Pairwise (fun a b=>lt a b=true)→(∀ k∈ks,lt s.lo k=true∧Sp.below s.hi k=true)→(parts s ks kids).Pairwise (fun x y=>x.2.hi≠⟨#[]⟩∧le x.2.hi y.2.lo=true)
 | s,_,[],hl,_,_=>by simp at hl
 | s,[],k :: kids,hl,_,_=>by
  have:kids=[]:=List.eq_nil_of_length_eq_zero (by simpa using hl)
  subst this
  simp [parts]
 | s,q :: ks,k :: kids,hl,hp,hb=>by
  obtain⟨hq,hp'⟩:=List.pairwise_cons.1 hp
  obtain⟨b1,b2⟩:=hb q (by simp)
  have hl':kids.length=ks.length+1:=by simpa using hl
  have hb':∀ x∈ks,lt q x=true∧Sp.below s.hi x=true:=fun x hx=>⟨hq x hx,(hb x (by simp [hx])).2⟩
  simp only [parts]
  refine List.pairwise_cons.2 ⟨fun y hy=>⟨fun e=>?_,(parts_in ⟨q,s.hi⟩ ks kids hl' hp' hb' y hy).1⟩,parts_pair ⟨q,s.hi⟩ ks kids hl' hp' hb'⟩
  have e':q=⟨#[]⟩:=e
  rw [e',lt_nil] at b1;cases b1
theorem rise_ents {fs:Fs}:∀ {h:Nat} {t:T} {s:Sp},Stands fs h t s→RiseE (T.ents h t)
 | 0,.leaf p es,s,ht=>by
  obtain⟨g,hg,hk,he,_⟩:=ht
  have:=(has_leaf hg hk).1
  rw [he,List.pairwise_map] at this
  exact this
 | 0,.branch _ _ _,s,ht=>by simp [T.ents,RiseE]
 | h+1,.leaf _ _,s,ht=>by simp [Stands] at ht
 | h+1,.branch p ks kids,s,ht=>by
  obtain⟨hl,hp,hb,_,hall⟩:=branch_keys ht
  have hpp:=parts_pair s ks kids hl hp hb
  have key:∀ (l:List (T×Sp)),(∀ x∈l,Stands fs h x.1 x.2)→l.Pairwise (fun x y=>x.2.hi≠⟨#[]⟩∧le x.2.hi y.2.lo=true)→RiseE ((l.map (·.1)).flatMap (T.ents h)):=by
   intro l hl hp
   induction l with
   | nil=>exact .nil
   | cons x l ih =>
    obtain⟨hx,hp'⟩:=List.pairwise_cons.1 hp
    rw [List.map_cons,List.flatMap_cons]
    refine List.pairwise_append.2 ⟨rise_ents (hl x (by simp)),ih (fun y hy=>hl y (by simp [hy])) hp',?_⟩
    intro a ha b hb
    obtain⟨k,hk,hb⟩:=List.mem_flatMap.1 hb
    obtain⟨y,hy,rfl⟩:=List.mem_map.1 hk
    obtain⟨n1,n2⟩:=hx y hy
    have ia:=ents_in (hl x (by simp)) a ha
    have ib:=ents_in (hl y (by simp [hy])) b hb
    unfold Sp.has at ia ib
    rw [Bool.and_eq_true] at ia ib
    have la:lt a.e.key x.2.hi=true:=by
     rcases below_iff.1 ia.2 with h|h
     ·exact absurd h n1
     ·exact h
    exact lt_of_lt_of_le (lt_of_lt_of_le la n2) ib.1
  have:=key _ hall hpp
  rw [parts_fst] at this
  simpa only [T.ents] using this
def oents:Option (Nat×T)→List En
 | none=>[]
 | some (h,t)=>T.ents h t
theorem ostored_eq {fs:Fs} {root:Nat} {o:Option (Nat×T)} (hro:Rooted fs root o) (q:Sp):ostored q o=(oents o).filter (fun x=>q.has x.e.key):=by
 cases o with
 | none=>rfl
 | some x=>exact pick_lvs q hro.2.2
theorem oents_rise {fs:Fs} {root:Nat} {o:Option (Nat×T)} (hro:Rooted fs root o):RiseE (oents o):=by
 cases o with
 | none=>exact .nil
 | some x=>exact rise_ents hro.2.2
theorem filter_range {α:Type} (p:α→Bool):∀ (l:List α) (a b:Nat),(∀ m (h:m<l.length),p l[m]=(decide (a≤m)&&decide (m<b)))→l.filter p=(l.take b).drop a
 | [],_,_,_=>by simp
 | x :: l,a,0,h=>by
  rw [List.take_zero,List.drop_nil,List.filter_eq_nil_iff]
  intro y hy
  obtain⟨m,hm,rfl⟩:=List.getElem_of_mem hy
  rw [h m hm];simp
 | x :: l,0,b+1,h=>by
  have h0:=h 0 (by simp)
  simp only [List.getElem_cons_zero] at h0
  have hx:p x=true:=by rw [h0];simp
  rw [List.filter_cons_of_pos hx,List.take_succ_cons,List.drop_zero,filter_range p l 0 b (fun m hm=>by
   have:=h (m+1) (by simpa using hm)
   simp only [List.getElem_cons_succ] at this
   rw [this];simp),List.drop_zero]
 | x :: l,a+1,b+1,h=>by
  have h0:=h 0 (by simp)
  simp only [List.getElem_cons_zero] at h0
  have hx:¬ p x=true:=by rw [h0];simp
  rw [List.filter_cons_of_neg hx,List.take_succ_cons,List.drop_succ_cons,filter_range p l a b (fun m hm=>by
   have:=h (m+1) (by simpa using hm)
   simp only [List.getElem_cons_succ] at this
   rw [this];simp)]
theorem srch_at {cs:List Ch} (hr:Rise cs) (k:ByteArray) (m:Nat) (hm:m<cs.length):lt cs[m].key k=decide (m<srch cs k):=by
 by_cases h:m<srch cs k
 ·obtain⟨_,h'⟩:=srch_lt h
  rw [h'];simp [h]
 ·rw [srch_ge hr (by omega) hm];simp [h]
def ownC (cs:List Ch) (q:Sp):List Ch:=cs.filter (fun c=>q.has c.key)
theorem ownC_eq {cs:List Ch} (hr:Rise cs) (q:Sp) (b:Nat) (hb:b=if isNil q.hi=true then cs.length else srch cs q.hi):ownC cs q=(cs.take (max (srch cs q.lo) b)).drop (srch cs q.lo):=by
 refine filter_range _ cs _ _ (fun m hm=>?_)
 have h1:lt cs[m].key q.lo=decide (m<srch cs q.lo):=srch_at hr q.lo m hm
 have h2:Sp.below q.hi cs[m].key=decide (m<b):=by
  unfold Sp.below
  cases hn:isNil q.hi
  ·rw [hn] at hb
   simp only [Bool.false_or]
   simp only [Bool.false_eq_true,if_false] at hb
   rw [hb];exact srch_at hr q.hi m hm
  ·rw [hn] at hb
   simp only [if_true] at hb
   rw [hb];simp [hm]
 unfold Sp.has le
 rw [h1,h2]
 by_cases ha:m<srch cs q.lo
 ·have:¬ srch cs q.lo≤m:=by omega
  simp [ha,this]
 ·have h3:srch cs q.lo≤m:=by omega
  simp only [ha,h3,decide_false,decide_true,Bool.not_false,Bool.true_and]
  congr 1
  apply propext
  omega
def CutC (S:Bl) (ca:Option Addr) (cs:List Ch) (a:Option Addr) (c:Nat) (own:List Ch):Prop :=
 own.length≤c∧(∀ Wx,RowOn Wx S ca (cs.flatMap Ch.cells)→RowOn Wx S a (own.flatMap Ch.cells))∧((a=none∧c=0)∨∃ b off,a=some ⟨b,off,none⟩)
theorem cutC_of {S:Bl} {b off cc:Nat} {cs own:List Ch} (n t:Nat) (hcc:cs.length≤cc) (hn:n≤t) (ht:t≤cs.length) (ho:own=(cs.take t).drop n):CutC S (some ⟨b,off,none⟩) cs (if cc=n then some ⟨b,off,none⟩ else some ⟨b,off+n * 3,none⟩) (cc-n) own:=by
 have hl:own.length=t-n:=by rw [ho,List.length_drop,List.length_take];omega
 refine⟨by omega,fun Wx h=>?_,?_⟩
 ·by_cases hc:cc=n
  ·exact .inl (by rw [List.eq_nil_of_length_eq_zero (by omega:own.length=0)];rfl)
  ·rw [if_neg hc,ho]
   exact(h.takeZ (z:=3) t).dropZ n (fun x _=>rfl) (by rw [List.length_take];omega)
 ·by_cases hc:cc=n
  ·exact .inr ⟨b,off,by rw [if_pos hc]⟩
  ·exact .inr ⟨b,off+n * 3,by rw [if_neg hc]⟩
theorem str_ne (a:ByteArray):(a.toList==([]:List UInt8))=isNil a:=by
 unfold isNil;cases a.toList<;>rfl
theorem within_any (ca:Option Addr) (cc:Nat) (cs:List Ch) (q:Sp) (S:Bl) (w:World) (hR:RowOn w S ca (cs.flatMap Ch.cells)) (hS:∀ b,S b→b<w.heap.size) (hr:Rise cs) (hn:cs.length≤1000000) (hc:cs.length≤cc) (hca:(ca=none∧cc=0)∨∃ b off,ca=some ⟨b,off,none⟩) :
  Calls Tryz.prog 137 #[.slice ca cs.length cc,.agg #[.string q.lo,.string q.hi]] w fun e w'=>∃ a c,e=.returned (.slice a (ownC cs q).length c)∧CutC S ca cs a c (ownC cs q)∧Below w.heap.size w w':=by
 obtain⟨W1,hW1⟩:∃ W1,w.alloc (.cells #[.string q.lo,.string q.hi] 135)=W1:=⟨_,rfl⟩
 have b1:Below w.heap.size w W1:=hW1▸(Below.refl _ _).alloc (jU _) _
 have x1:W1.heap[w.heap.size]?=some (.cells #[.string q.lo,.string q.hi] 135):=hW1▸heap_new w _
 obtain⟨m0,m1⟩:=box2 x1
 have z1:=(jJ.1 x1).1
 have hsr:∀ W k,Below w.heap.size w W→Calls Tryz.prog 72 #[.slice ca cs.length cc,.string k] W fun e w'=>e=.returned (.tuple #[.int .i64 (srch cs k),.bool (fnd cs k)])∧Below W.heap.size W w':=fun W k h=>search_any ca cc cs k S W (hR.on (vV h hS)) (fun b hb=>jY (hS b hb) h.size) hr hn hc
 have hle:=srch_le cs q.lo
 have hle2:=srch_le cs q.hi
 have hE:=fun b hb=>ownC_eq hr q b hb
 obtain⟨n,hn'⟩:∃ n,srch cs q.lo=n:=⟨_,rfl⟩
 obtain⟨t,ht'⟩:∃ t,srch cs q.hi=t:=⟨_,rfl⟩
 have hs1:=hsr W1 q.lo b1
 rw [hn'] at hle hs1
 simp only [hn',ht'] at hE
 rw [ht'] at hle2
 have hs2:=fun W h=>hsr W q.hi h
 simp only [ht'] at hs2
 clear hn' ht' hsr
 go_enter Tryz.func137,Tryz.ntmps137
 cases hnil:isNil q.hi
 ·have hne:(q.hi.toList==([]:List UInt8))=false:=by rw [str_ne,hnil]
  have hO:Hid (ownC cs q=(cs.take (max n t)).drop n):=hE t (by simp [hnil])
  have hOl:Hid ((ownC cs q).length=max n t-n):=by show _=_;rw [hO.out,List.length_drop,List.length_take];omega
  clear hE
  rcases hca with⟨rfl,rfl⟩|⟨rb,ro,rfl⟩
  ·obtain rfl:cs=[]:=List.eq_nil_of_length_eq_zero (by omega)
   obtain rfl:n=0:=by simpa using hle
   obtain rfl:t=0:=by simpa using hle2
   go_wp2_with (go_at_call 72;first|(refine hs1.mono ?_;clear hs1;rintro e w2 ⟨rfl,hb2⟩;have b2:Below w.heap.size w w2:=b1.trans (hb2.mono b1.size);obtain⟨e0,e1⟩:=box2 ((hb2.block w.heap.size z1).trans x1))|(refine(hs2 _ b2).mono ?_;rintro e w3 ⟨rfl,hb3⟩;have b3:Below w.heap.size w w3:=b2.trans (hb3.mono b2.size)))
   go_ret
   exact⟨none,0,by rw [hOl.out];rfl,⟨by rw [hOl.out];simp,fun _ _=>.inl (by rw [List.eq_nil_of_length_eq_zero (by rw [hOl.out];rfl:(ownC [] q).length=0)];rfl),.inl ⟨rfl,rfl⟩⟩,b3⟩
  ·skip
   have key:CutC S (some ⟨rb,ro,none⟩) cs (if cc=n then some ⟨rb,ro,none⟩ else some ⟨rb,ro+n * 3,none⟩) (cc-n) (ownC cs q):=cutC_of n (max n t) hc (by omega) (by omega) hO.out
   by_cases hcn:cc=n
   ·subst cc
    have HOL:Hid ((ownC cs q).length=0):=by show _=_;rw [hOl.out];omega
    have KEY:Hid (CutC S (some ⟨rb,ro,none⟩) cs (some ⟨rb,ro,none⟩) 0 (ownC cs q)):=by rw [if_pos rfl,Nat.sub_self] at key;exact key
    have hts:(t:Int)≤(n:Int):=by omega
    clear hO hOl key
    go_wp2_with (go_at_call 72;first|(refine hs1.mono ?_;clear hs1;rintro e w2 ⟨rfl,hb2⟩;have b2:Below w.heap.size w w2:=b1.trans (hb2.mono b1.size);obtain⟨e0,e1⟩:=box2 ((hb2.block w.heap.size z1).trans x1))|(refine(hs2 _ b2).mono ?_;rintro e w3 ⟨rfl,hb3⟩;have b3:Below w.heap.size w w3:=b2.trans (hb3.mono b2.size)))
    all_goals go_ret
    all_goals exact⟨_,_,by rw [HOL.out];first|rfl|(simp;done)|(simp;omega),KEY.out,b3⟩
   ·have KEY:Hid (CutC S (some ⟨rb,ro,none⟩) cs (some ⟨rb,ro+n * 3,none⟩) (cc-n) (ownC cs q)):=by rw [if_neg hcn] at key;exact key
    clear key
    by_cases hnt:n≤t
    ·have HOL:Hid ((ownC cs q).length=t-n):=by show _=_;rw [hOl.out];omega
     have hnti:(n:Int)≤(t:Int):=by omega
     clear hO hOl
     go_wp2_with (go_at_call 72;first|(refine hs1.mono ?_;clear hs1;rintro e w2 ⟨rfl,hb2⟩;have b2:Below w.heap.size w w2:=b1.trans (hb2.mono b1.size);obtain⟨e0,e1⟩:=box2 ((hb2.block w.heap.size z1).trans x1))|(refine(hs2 _ b2).mono ?_;rintro e w3 ⟨rfl,hb3⟩;have b3:Below w.heap.size w w3:=b2.trans (hb3.mono b2.size)))
     all_goals go_ret
     all_goals exact⟨_,_,by rw [HOL.out];first|rfl|(simp;done)|(simp;omega),KEY.out,b3⟩
    ·have HOL:Hid ((ownC cs q).length=n-n):=by show _=_;rw [hOl.out];omega
     have hnti:(t:Int)<(n:Int):=by omega
     clear hO hOl
     go_wp2_with (go_at_call 72;first|(refine hs1.mono ?_;clear hs1;rintro e w2 ⟨rfl,hb2⟩;have b2:Below w.heap.size w w2:=b1.trans (hb2.mono b1.size);obtain⟨e0,e1⟩:=box2 ((hb2.block w.heap.size z1).trans x1))|(refine(hs2 _ b2).mono ?_;rintro e w3 ⟨rfl,hb3⟩;have b3:Below w.heap.size w w3:=b2.trans (hb3.mono b2.size)))
     all_goals go_ret
     all_goals exact⟨_,_,by rw [HOL.out];first|rfl|(simp;done)|(simp;omega),KEY.out,b3⟩
 ·have hne:(q.hi.toList==([]:List UInt8))=true:=by rw [str_ne,hnil]
  have hO:Hid (ownC cs q=(cs.take (max n cs.length)).drop n):=hE cs.length (by simp [hnil])
  have hOl:Hid ((ownC cs q).length=max n cs.length-n):=by show _=_;rw [hO.out,List.length_drop,List.length_take];omega
  clear hE
  rcases hca with⟨rfl,rfl⟩|⟨rb,ro,rfl⟩
  ·obtain rfl:cs=[]:=List.eq_nil_of_length_eq_zero (by omega)
   obtain rfl:n=0:=by simpa using hle
   go_wp2_with (go_at_call 72;refine hs1.mono ?_;clear hs1;rintro e w2 ⟨rfl,hb2⟩;have b2:Below w.heap.size w w2:=b1.trans (hb2.mono b1.size);obtain⟨e0,e1⟩:=box2 ((hb2.block w.heap.size z1).trans x1))
   go_ret
   exact⟨none,0,by rw [hOl.out];rfl,⟨by rw [hOl.out];simp,fun _ _=>.inl (by rw [List.eq_nil_of_length_eq_zero (by rw [hOl.out];rfl:(ownC [] q).length=0)];rfl),.inl ⟨rfl,rfl⟩⟩,b2⟩
  ·skip
   have key:CutC S (some ⟨rb,ro,none⟩) cs (if cc=n then some ⟨rb,ro,none⟩ else some ⟨rb,ro+n * 3,none⟩) (cc-n) (ownC cs q):=cutC_of n (max n cs.length) hc (by omega) (by omega) hO.out
   by_cases hcn:cc=n
   ·subst cc
    have HOL:Hid ((ownC cs q).length=0):=by show _=_;rw [hOl.out];omega
    have KEY:Hid (CutC S (some ⟨rb,ro,none⟩) cs (some ⟨rb,ro,none⟩) 0 (ownC cs q)):=by rw [if_pos rfl,Nat.sub_self] at key;exact key
    have hts:(cs.length:Int)≤(n:Int):=by omega
    clear hO hOl key
    go_wp2_with (go_at_call 72;refine hs1.mono ?_;clear hs1;rintro e w2 ⟨rfl,hb2⟩;have b2:Below w.heap.size w w2:=b1.trans (hb2.mono b1.size);obtain⟨e0,e1⟩:=box2 ((hb2.block w.heap.size z1).trans x1))
    all_goals go_ret
    all_goals exact⟨_,_,by rw [HOL.out];first|rfl|(simp;done)|(simp;omega),KEY.out,b2⟩
   ·have KEY:Hid (CutC S (some ⟨rb,ro,none⟩) cs (some ⟨rb,ro+n * 3,none⟩) (cc-n) (ownC cs q)):=by rw [if_neg hcn] at key;exact key
    clear key
    by_cases hnt:n≤cs.length
    ·have HOL:Hid ((ownC cs q).length=cs.length-n):=by show _=_;rw [hOl.out];omega
     have hnti:(n:Int)≤(cs.length:Int):=by omega
     clear hO hOl
     go_wp2_with (go_at_call 72;refine hs1.mono ?_;clear hs1;rintro e w2 ⟨rfl,hb2⟩;have b2:Below w.heap.size w w2:=b1.trans (hb2.mono b1.size);obtain⟨e0,e1⟩:=box2 ((hb2.block w.heap.size z1).trans x1))
     all_goals go_ret
     all_goals exact⟨_,_,by rw [HOL.out];first|rfl|(simp;done)|(simp;omega),KEY.out,b2⟩
    ·exact absurd hle hnt
theorem rise_ext:∀ {l m:List En},RiseE l→RiseE m→(∀ y,y∈l↔y∈m)→l=m
 | [],[],_,_,_=>rfl
 | [],y :: m,_,_,h=>absurd ((h y).2 (by simp)) (by simp)
 | x :: l,[],_,_,h=>absurd ((h x).1 (by simp)) (by simp)
 | x :: l,y :: m,hl,hm,h=>by
  obtain⟨hx,hl'⟩:=List.pairwise_cons.1 hl
  obtain⟨hy,hm'⟩:=List.pairwise_cons.1 hm
  have exy:x=y:=by
   rcases List.mem_cons.1 ((h x).1 (by simp)) with e|e
   ·exact e
   ·rcases List.mem_cons.1 ((h y).2 (by simp)) with e'|e'
    ·exact e'.symm
    ·have:=lt_trans (hx y e') (hy x e)
     rw [lt_irrefl] at this;cases this
  subst exy
  rw [rise_ext hl' hm' (fun z=>?_)]
  constructor
  ·intro hz
   rcases List.mem_cons.1 ((h z).1 (by simp [hz])) with rfl|hz'
   ·have:=hx z hz;rw [lt_irrefl] at this;cases this
   ·exact hz'
  ·intro hz
   rcases List.mem_cons.1 ((h z).2 (by simp [hz])) with rfl|hz'
   ·have:=hy z hz;rw [lt_irrefl] at this;cases this
   ·exact hz'
theorem entries_eq {es:List En} {cs:List Ch} (he:RiseE es) (hr:Rise cs) (q:Sp):overE (es.filter (fun x=>q.has x.e.key)) (ownC cs q)=(overE es cs).filter (fun x=>q.has x.e.key):=by
 rw [overE_ovr,overE_ovr]
 have hro:Rise (ownC cs q):=List.Pairwise.filter _ hr
 have hef:RiseE (es.filter (fun x=>q.has x.e.key)):=List.Pairwise.filter _ he
 refine rise_ext (rise_ovr _ _ hef hro) (List.Pairwise.filter _ (rise_ovr _ _ he hr)) (fun y=>?_)
 rw [mem_ovr _ _ hef hro,List.mem_filter,List.mem_filter,mem_ovr _ _ he hr]
 unfold ownC
 constructor
 ·rintro(⟨c,hc,hg,rfl⟩|⟨hy,hn⟩)
  ·obtain⟨h1,h2⟩:=List.mem_filter.1 hc
   exact⟨.inl ⟨c,h1,hg,rfl⟩,h2⟩
  ·obtain⟨h1,h2⟩:=hy
   refine⟨.inr ⟨h1,fun c hc e=>hn c (List.mem_filter.2 ⟨hc,?_⟩) e⟩,h2⟩
   rw [e];exact h2
 ·rintro⟨⟨c,hc,hg,rfl⟩|⟨hy,hn⟩,hq⟩
  ·exact .inl ⟨c,List.mem_filter.2 ⟨hc,hq⟩,hg,rfl⟩
  ·exact .inr ⟨⟨hy,hq⟩,fun c hc=>hn c (List.mem_filter.1 hc).1⟩
def overPg (next:Nat) (d:ByteArray):Pg:=⟨4,0,0,next,[],[],[],d⟩
def leafPg (es:List En):Pg:=⟨3,0,0,0,[],[],es.map (·.e),⟨#[]⟩⟩
def branPg (los:List ByteArray) (pls:List Nat):Pg:=⟨2,0,0,0,los,pls.map (fun n:Nat=>(n:Int)),[],⟨#[]⟩⟩
def metaPg (ver root:Int):Pg:=⟨1,ver,root,0,[],[],[],⟨#[]⟩⟩
theorem enc_right (G:Pg) (hr:rightB G.kind G.ver G.root G.next G.keys G.kids G.ents G.data=true) (hl:(fieldsB G.kind G.ver G.root G.next G.keys G.kids G.ents G.data).length≤252):G.encE=0:=by
 unfold Pg.encE Pages.encE
 rw [if_pos (by rw [hr];simpa using hl)]
theorem nil_empty:(⟨#[]⟩:ByteArray).toList.isEmpty=true:=by rw [ByteArray.toList_eq];rfl
theorem text_len (s:ByteArray):(textB s).length=s.size+1:=by
 unfold textB
 rw [jK,Array.length_toList]
 show 1+s.size=_
 omega
theorem enc_meta (ver root:Int) (h0:0≤ver) (h1:root=0∨placeB root=true):(metaPg ver root).encE=0:=by
 refine enc_right _ ?_ ?_
 ·rcases h1 with h|h<;>simp [metaPg,rightB,noBranch,noLeaf,noOver,metaB,h0,h,nil_empty]
 ·simp [metaPg,fieldsB,beB_length]
theorem enc_over (next:Nat) (d:ByteArray) (h1:next=0∨placeB next=true) (h2:1≤d.size) (h3:d.size≤240):(overPg next d).encE=0:=by
 refine enc_right _ ?_ ?_
 ·rcases h1 with h|h<;>simp [overPg,rightB,noBranch,noLeaf,noMeta,overB,h,h2,h3]
 ·have:=text_len d
  simp [overPg,fieldsB,beB_length]
  omega
theorem leafOk_of:∀ (es:List Ent) (last:ByteArray),es.Pairwise (fun a b=>lt a.key b.key=true)→(∀ e∈es,lt last e.key=true∧e.key.size≤24∧valB e.val e.size e.over=true)→leafOk last es=true
 | [],_,_,_=>rfl
 | e :: r,last,hp,h=>by
  obtain⟨h1,h2⟩:=List.pairwise_cons.1 hp
  obtain⟨a1,a2,a3⟩:=h e (by simp)
  simp only [leafOk,Bool.and_eq_true,followsB]
  refine⟨⟨⟨a1,by simpa using a2⟩,a3⟩,leafOk_of r e.key h2 (fun x hx=>?_)⟩
  obtain⟨_,b2,b3⟩:=h x (by simp [hx])
  exact⟨h1 x hx,b2,b3⟩
theorem risingB_of:∀ (ks:List ByteArray) (last:ByteArray),ks.Pairwise (fun a b=>lt a b=true)→(∀ k∈ks,lt last k=true∧k.size≤24)→risingB last ks=true
 | [],_,_,_=>rfl
 | k :: r,last,hp,h=>by
  obtain⟨h1,h2⟩:=List.pairwise_cons.1 hp
  obtain⟨a1,a2⟩:=h k (by simp)
  simp only [risingB,Bool.and_eq_true,followsB]
  exact⟨⟨a1,by simpa using a2⟩,risingB_of r k h2 (fun x hx=>⟨h1 x hx,(h x (by simp [hx])).2⟩)⟩
theorem ent_len (x:En) (h:valB x.e.val x.e.size x.e.over=true):(Ent.bytes x.e).length=esz x:=by
 unfold Ent.bytes entBytes esz
 rw [jK,text_len]
 simp only [valB,Bool.or_eq_true,Bool.and_eq_true,beq_iff_eq,decide_eq_true_eq] at h
 rcases h with⟨⟨h1,h2⟩,h3⟩|⟨⟨⟨h1,h2⟩,h3⟩,h4⟩
 ·rw [if_pos (by simp [h1]),if_neg (by omega),jK,text_len]
  simp;omega
 ·have h0:¬ (x.e.over==0)=true:=by
   intro e
   rw [beq_iff_eq.1 e] at h1
   simp [placeB] at h1
  rw [if_neg h0,if_pos h3,jK,jK,beB_length,beB_length]
  simp
theorem ents_len:∀ (es:List En),(∀ x∈es,valB x.e.val x.e.size x.e.over=true)→((es.map (·.e)).flatMap Ent.bytes).length=tot esz es
 | [],_=>rfl
 | x :: es,h=>by
  rw [List.map_cons,List.flatMap_cons,jK,tot_cons,ent_len x (h x (by simp)),ents_len es (fun y hy=>h y (by simp [hy]))]
theorem enc_leaf (es:List En) (hne:es≠[]) (hr:RiseE es) (hk:∀ x∈es,lt ⟨#[]⟩ x.e.key=true∧x.e.key.size≤24∧valB x.e.val x.e.size x.e.over=true) (hs:tot esz es≤250):(leafPg es).encE=0:=by
 have hok:leafOk ⟨#[]⟩ (es.map (·.e))=true:=leafOk_of _ _ (by rw [List.pairwise_map];exact hr) (fun e he=>by
  obtain⟨x,hx,rfl⟩:=List.mem_map.1 he
  exact hk x hx)
 refine enc_right _ ?_ ?_
 ·have hne':es.map (·.e)≠[]:=by simpa using hne
  simp [leafPg,rightB,noMeta,noBranch,noOver,hok,hne,nil_empty]
 ·have h2:=ents_len es (fun x hx=>(hk x hx).2.2)
  simp only [leafPg,fieldsB,leafB,jK,beB_length,if_neg (show ¬ (3:Int)=1 by decide),if_neg (show ¬ (3:Int)=2 by decide),if_pos]
  omega
theorem kids_len:∀ (l:List Int),(l.flatMap (beB 2)).length=2 * l.length
 | []=>rfl
 | x :: l=>by rw [List.flatMap_cons,jK,beB_length,kids_len l,List.length_cons];omega
theorem keys_len:∀ (l:List ByteArray),(l.flatMap textB).length=tot (fun k:ByteArray=>k.size+1) l
 | []=>rfl
 | x :: l=>by rw [List.flatMap_cons,jK,text_len,keys_len l,tot_cons]
theorem enc_bran (los:List ByteArray) (pls:List Nat) (hne:los≠[]) (hl:pls.length=los.length+1) (hr:los.Pairwise (fun a b=>lt a b=true)) (hk:∀ k∈los,lt ⟨#[]⟩ k=true∧k.size≤24) (hp:∀ p∈pls,placeB (p:Nat)=true) (hs:2 * pls.length+tot (fun k:ByteArray=>k.size+1) los≤250):(branPg los pls).encE=0:=by
 refine enc_right _ ?_ ?_
 ·have h1:=risingB_of los ⟨#[]⟩ hr hk
  have h2:(pls.map (fun n:Nat=>(n:Int))).all placeB=true:=by
   rw [List.all_eq_true]
   intro x hx
   obtain⟨p,hpp,rfl⟩:=List.mem_map.1 hx
   exact hp p hpp
  simp only [branPg,rightB,noMeta,noLeaf,noOver,branchOk,h1,h2,nil_empty,if_neg (show ¬ (2:Int)=1 by decide),if_pos,List.length_map,hl]
  simp [hne]
 ·simp only [branPg,fieldsB,branchB,jK,beB_length,if_neg (show ¬ (2:Int)=1 by decide),if_pos,kids_len,keys_len,List.length_map]
  omega
theorem has_kids {fs:Fs} {p:Nat} {g:Pg} (h:fs.has p g) (hk:g.kind=2):∀ k∈g.kids,placeB k=true:=by
 have:=has_right h
 rw [hk] at this
 simp only [rightB,if_neg (show ¬ (2:Int)=1 by decide),if_pos,Bool.and_eq_true,branchOk,List.all_eq_true] at this
 exact this.2.1.2
theorem has_over {fs:Fs} {p:Nat} {g:Pg} (h:fs.has p g) (hk:g.kind=4):g.next=0∨placeB g.next=true:=by
 have:=has_right h
 rw [hk] at this
 simp only [rightB,if_neg (show ¬ (4:Int)=1 by decide),if_neg (show ¬ (4:Int)=2 by decide),if_neg (show ¬ (4:Int)=3 by decide),if_pos,Bool.and_eq_true,overB,Bool.or_eq_true,beq_iff_eq] at this
 exact this.2.1
theorem enc_size (g:Pg) (hE:g.encE=0):g.encS.size=256:=by
 unfold Pg.encE Pages.encE at hE
 split at hE
 ·rename_i hT
  unfold Pg.encS Pages.encS
  rw [if_pos hT]
  simp only [Bool.and_eq_true,decide_eq_true_eq] at hT
  show (fullB _).toArray.size=256
  simp only [List.size_toArray,fullB,padB,jK,List.length_replicate,beB_length]
  omega
 ·simp at hE
theorem enc_isPg (g:Pg) (hv:g.ver<9223372036854775808) (hE:g.encE=0):IsPg g.encS g:=by
 have h:=round_trip g hv hE
 exact⟨enc_size g hE,by rw [h];exact hE,by rw [h],h.symm⟩
inductive NT where
  | kept (t:T) (s:Sp)
  | leaf (s:Sp) (es:List En)
  | bran (s:Sp) (ks:List NT)
def NT.sp:NT→Sp
  | .kept _ s=>s
  | .leaf s _=>s
  | .bran s _=>s
def kszT (n:NT):Nat:=n.sp.lo.size+3
def leafT (p:List En):NT:=.leaf ⟨firstKey p,⟨#[]⟩⟩ p
def leavesP (es:List En):List NT:=(cuts esz es).map leafT
def smallT:NT→Bool
  | .kept _ _=>false
  | .leaf _ es=>decide (tot esz es<62)
  | .bran _ ks=>decide (tot kszT ks<62)
def NT.ents0:NT→List En
  | .kept (.leaf _ es) _=>es
  | .kept (.branch _ _ _) _=>[]
  | .leaf _ es=>es
  | .bran _ _=>[]
def joinS (tog:NT→NT→List NT) (acc:List NT) (n:NT):List NT :=
  match acc.getLast? with
  | none=>[n]
  | some l=>if smallT l=true∨smallT n=true then acc.dropLast++tog l n else acc++[n]
def joinP (tog:NT→NT→List NT) (ns:List NT):List NT:=ns.foldl (joinS tog) []
def tog0 (a b:NT):List NT:=leavesP (a.ents0++b.ents0)
def entsL (ns:List NT):List En:=ns.flatMap NT.ents0
def En.good (fs:Fs) (x:En):Prop:=lt ⟨#[]⟩ x.e.key=true∧x.e.key.size≤24 ∧
  ((x.e.over=0∧x.ch=[]∧x.e.size=(x.e.val.size:Int)∧x.e.val.size≤400) ∨
   (x.e.val=⟨#[]⟩∧placeB x.e.over=true∧∃ size over:Nat,x.e.size=size∧x.e.over=over∧60<size∧size≤400∧ChainAt fs over size x.ch))
theorem good_esz {fs:Fs} {x:En} (h:x.good fs):esz x≤87:=by
  obtain⟨_,hk,h|⟨hv,_,sz,ov,h1,_,h2,_⟩⟩:=h
  · obtain⟨_,_,h1,h2⟩:=h
    unfold esz;split<;>omega
  · unfold esz;rw [h1,if_pos (by omega)];omega
theorem good_fits {fs:Fs} {x:En} (h:x.good fs):x.fits:=by
  obtain⟨_,hk,h|⟨hv,_⟩⟩:=h
  · exact⟨hk,h.2.2.2⟩
  · refine⟨hk,?_⟩;rw [hv];decide
def Ok0 (fs:Fs):NT→Prop
  | .kept (.leaf p es) s=>Stands fs 0 (.leaf p es) s
  | .kept (.branch _ _ _) _=>False
  | .leaf s es=>es≠[]∧s.lo=firstKey es∧RiseE es∧tot esz es≤250∧∀ x∈es,x.good fs
  | .bran _ _=>False
def Ahead (a b:NT):Prop:=∀ x∈a.ents0,lt x.e.key b.sp.lo=true
structure Lst (fs:Fs) (ns:List NT):Prop where
  ok:∀ n∈ns,Ok0 fs n
  lo:∀ n∈ns,∀ x∈n.ents0,le n.sp.lo x.e.key=true
  sep:ns.Pairwise Ahead
theorem rise_cons {x:En} {l:List En}:RiseE (x :: l)↔(∀ y∈l,lt x.e.key y.e.key=true)∧RiseE l:=List.pairwise_cons
theorem rise_append {l m:List En}:RiseE (l++m)↔RiseE l∧RiseE m∧∀ x∈l,∀ y∈m,lt x.e.key y.e.key=true:=List.pairwise_append
theorem firstKey_le {es:List En} (h:RiseE es):∀ x∈es,le (firstKey es) x.e.key=true:=by
  intro x hx
  cases es with
  | nil=>simp at hx
  | cons y l =>
    rcases List.mem_cons.1 hx with rfl|hx
    · exact le_refl _
    · exact le_of_lt ((rise_cons.1 h).1 x hx)
theorem firstKey_mem {es:List En} (h:es≠[]):∃ x∈es,firstKey es=x.e.key:=by
  cases es with
  | nil=>exact absurd rfl h
  | cons y l=>exact⟨y,by simp,rfl⟩
theorem pieces_lst {fs:Fs}:∀ {ps:List (List En)},RiseE ps.flatten→(∀ x∈ps.flatten,x.good fs)→(∀ p∈ps,p≠[])→(∀ p∈ps,tot esz p≤250)→Lst fs (ps.map leafT)
  | [],_,_,_,_=>⟨by simp,by simp,by simp⟩
  | p :: ps,hr,hg,hne,hf=>by
    rw [List.flatten_cons] at hr hg
    obtain⟨h1,h2,h3⟩:=rise_append.1 hr
    have ih:=pieces_lst h2 (fun x hx=>hg x (by simp only [List.mem_append];exact .inr hx)) (fun q hq=>hne q (by simp [hq])) (fun q hq=>hf q (by simp [hq]))
    have hp:Ok0 fs (leafT p):=⟨hne p (by simp),rfl,h1,hf p (by simp),fun x hx=>hg x (by simp [hx])⟩
    refine⟨?_,?_,?_⟩
    · rw [List.map_cons];intro n hn
      rcases List.mem_cons.1 hn with rfl|hn
      · exact hp
      · exact ih.ok n hn
    · rw [List.map_cons];intro n hn
      rcases List.mem_cons.1 hn with rfl|hn
      · exact firstKey_le h1
      · exact ih.lo n hn
    · rw [List.map_cons]
      refine List.pairwise_cons.2 ⟨fun n hn x hx=>?_,ih.sep⟩
      obtain⟨q,hq,rfl⟩:=List.mem_map.1 hn
      obtain⟨y,hy,e⟩:=firstKey_mem (hne q (by simp [hq]))
      show lt x.e.key (firstKey q)=true
      rw [e]
      exact h3 x hx y (List.mem_flatten.2 ⟨q,hq,hy⟩)
theorem esz_250 {fs:Fs} {es:List En} (hg:∀ x∈es,x.good fs):∀ x∈es,esz x≤250:=fun x hx=>by have:=good_esz (hg x hx);omega
theorem leavesP_lst {fs:Fs} {es:List En} (hr:RiseE es) (hg:∀ x∈es,x.good fs):Lst fs (leavesP es):=by
  have h:=cuts_flat esz es (esz_250 hg)
  exact pieces_lst (by rw [h];exact hr) (by rw [h];exact hg) (cuts_ne esz es (esz_250 hg)) (cuts_fit esz es)
theorem entsL_leaves (ps:List (List En)):entsL (ps.map leafT)=ps.flatten:=by
  induction ps with
  | nil=>rfl
  | cons p ps ih=>simp only [entsL,List.map_cons,List.flatMap_cons,List.flatten_cons] at ih ⊢;rw [ih];rfl
theorem leavesP_ents {fs:Fs} {es:List En} (hg:∀ x∈es,x.good fs):entsL (leavesP es)=es:=by
  rw [leavesP,entsL_leaves,cuts_flat esz es (esz_250 hg)]
theorem leavesP_lo {fs:Fs} {es:List En} (hg:∀ x∈es,x.good fs):∀ n∈leavesP es,∃ x∈es,n.sp.lo=x.e.key:=by
  intro n hn
  obtain⟨p,hp,rfl⟩:=List.mem_map.1 hn
  obtain⟨x,hx,e⟩:=firstKey_mem (cuts_ne esz es (esz_250 hg) p hp)
  refine⟨x,?_,e⟩
  rw [← cuts_flat esz es (esz_250 hg)]
  exact List.mem_flatten.2 ⟨p,hp,hx⟩
theorem leavesP_in {fs:Fs} {es:List En} (hg:∀ x∈es,x.good fs):∀ n∈leavesP es,∀ x∈n.ents0,x∈es:=by
  intro n hn x hx
  rw [← leavesP_ents hg]
  exact List.mem_flatMap.2 ⟨n,hn,hx⟩
theorem stands_good {fs:Fs} {p:Nat} {es:List En} {s:Sp} (h:Stands fs 0 (.leaf p es) s):∀ x∈es,x.good fs:=by
  obtain⟨g,hg,hk,he,_,_,hok⟩:=h
  intro x hx
  obtain⟨_,hl⟩:=has_leaf hg hk
  obtain⟨h1,h2,h3⟩:=hl x.e (by rw [he];exact List.mem_map.2 ⟨x,hx,rfl⟩)
  refine⟨h1,h2,?_⟩
  obtain⟨sz,ov,o1,o2,o3,o4⟩:=hok x hx
  simp only [valB,Bool.or_eq_true,Bool.and_eq_true,beq_iff_eq,decide_eq_true_eq] at h3
  rcases h3 with⟨⟨a1,a2⟩,a3⟩|⟨⟨⟨a1,a2⟩,a3⟩,a4⟩
  · rcases o4 with⟨_,hc⟩|⟨hp,_⟩
    · exact .inl ⟨a1,hc,a3,by omega⟩
    · omega
  · have:ov≠0:=by
      intro e
      rw [o2,e] at a1
      simp [placeB] at a1
    rcases o4 with⟨h0,_⟩|⟨_,hc⟩
    · exact absurd h0 this
    · exact .inr ⟨by exact isNil_iff.1 a2,a1,sz,ov,o1,o2,by omega,o3,hc⟩
theorem ok0_ents {fs:Fs} {n:NT} (h:Ok0 fs n):n.ents0≠[]∧RiseE n.ents0∧∀ x∈n.ents0,x.good fs:=by
  cases n with
  | kept t s =>
    cases t with
    | leaf p es=>exact⟨by obtain⟨g,_,_,_,hne,_⟩:=h;exact hne,rise_ents (h:=0) h,stands_good h⟩
    | branch=>exact h.elim
  | leaf s es=>exact⟨h.1,h.2.2.1,h.2.2.2.2⟩
  | bran=>exact h.elim
theorem Lst.rise {fs:Fs}:∀ {ns:List NT},Lst fs ns→RiseE (entsL ns)
  | [],_=>.nil
  | n :: ns,h=>by
    obtain⟨h1,h2⟩:=List.pairwise_cons.1 h.sep
    have ih:=Lst.rise (ns:=ns) ⟨fun m hm=>h.ok m (by simp [hm]),fun m hm=>h.lo m (by simp [hm]),h2⟩
    rw [entsL,List.flatMap_cons]
    refine rise_append.2 ⟨(ok0_ents (h.ok n (by simp))).2.1,ih,fun x hx y hy=>?_⟩
    obtain⟨m,hm,hy⟩:=List.mem_flatMap.1 hy
    exact lt_of_lt_of_le (h1 m hm x hx) (h.lo m (by simp [hm]) y hy)
theorem Lst.good {fs:Fs} {ns:List NT} (h:Lst fs ns):∀ x∈entsL ns,x.good fs:=by
  intro x hx
  obtain⟨m,hm,hx⟩:=List.mem_flatMap.1 hx
  exact(ok0_ents (h.ok m hm)).2.2 x hx
theorem entsL_append (a b:List NT):entsL (a++b)=entsL a++entsL b:=by simp [entsL]
theorem Lst.tog {fs:Fs} {A B:List NT} {l n:NT} (h:Lst fs (A++l :: n :: B)):Lst fs (A++(tog0 l n++B))∧entsL (A++(tog0 l n++B))=entsL (A++l :: n :: B):=by
  obtain⟨sA,sB,sAB⟩:=List.pairwise_append.1 h.sep
  obtain⟨sl,sB⟩:=List.pairwise_cons.1 sB
  obtain⟨sn,sB⟩:=List.pairwise_cons.1 sB
  obtain⟨l1,l2,l3⟩:=ok0_ents (h.ok l (by simp))
  obtain⟨n1,n2,n3⟩:=ok0_ents (h.ok n (by simp))
  have hrise:RiseE (l.ents0++n.ents0):=rise_append.2 ⟨l2,n2,fun x hx y hy=>lt_of_lt_of_le (sl n (by simp) x hx) (h.lo n (by simp) y hy)⟩
  have hgood:∀ x∈l.ents0++n.ents0,x.good fs:=fun x hx=>(List.mem_append.1 hx).elim (l3 x) (n3 x)
  have hM:=leavesP_lst hrise hgood
  refine⟨⟨?_,?_,?_⟩,?_⟩
  · intro m hm
    simp only [List.mem_append] at hm
    rcases hm with hm|hm|hm
    · exact h.ok m (by simp [hm])
    · exact hM.ok m hm
    · exact h.ok m (by simp [hm])
  · intro m hm
    simp only [List.mem_append] at hm
    rcases hm with hm|hm|hm
    · exact h.lo m (by simp [hm])
    · exact hM.lo m hm
    · exact h.lo m (by simp [hm])
  · refine List.pairwise_append.2 ⟨sA,List.pairwise_append.2 ⟨hM.sep,sB,fun m hm b hb x hx=>?_⟩,fun a ha m hm x hx=>?_⟩
    · rcases List.mem_append.1 (leavesP_in hgood m hm x hx) with hx|hx
      · exact sl b (by simp [hb]) x hx
      · exact sn b hb x hx
    · rcases List.mem_append.1 hm with hm|hm
      · obtain⟨y,hy,e⟩:=leavesP_lo hgood m hm
        rw [e]
        rcases List.mem_append.1 hy with hy|hy
        · exact lt_of_lt_of_le (sAB a ha l (by simp) x hx) (h.lo l (by simp) y hy)
        · exact lt_of_lt_of_le (sAB a ha n (by simp) x hx) (h.lo n (by simp) y hy)
      · exact sAB a ha m (by simp [hm]) x hx
  · rw [entsL_append,entsL_append,entsL_append]
    show _++(entsL (leavesP _)++_)=_
    rw [leavesP_ents hgood]
    simp [entsL]
theorem joinS_lst {fs:Fs} {acc:List NT} {n:NT} {B:List NT} (h:Lst fs (acc++n :: B)):Lst fs (joinS tog0 acc n++B)∧entsL (joinS tog0 acc n++B)=entsL (acc++n :: B):=by
  unfold joinS
  rcases List.eq_nil_or_concat acc with rfl|⟨A,l,rfl⟩
  · simpa using h
  · simp only [List.concat_eq_append] at h ⊢
    rw [List.getLast?_append]
    simp only [List.getLast?_singleton,Option.some_or]
    split
    · rw [List.dropLast_concat,List.append_assoc]
      have h':Lst fs (A++l :: n :: B):=by simpa using h
      have:=h'.tog
      simpa using this
    · simpa using h
theorem join_lst {fs:Fs}:∀ {ns acc:List NT},Lst fs (acc++ns)→Lst fs (ns.foldl (joinS tog0) acc)∧entsL (ns.foldl (joinS tog0) acc)=entsL (acc++ns)
  | [],acc,h=>by simpa using h
  | n :: ns,acc,h=>by
    obtain⟨h1,h2⟩:=joinS_lst h
    obtain⟨h3,h4⟩:=join_lst h1
    exact⟨h3,h4.trans h2⟩
theorem joinP_lst {fs:Fs} {ns:List NT} (h:Lst fs ns):Lst fs (joinP tog0 ns)∧entsL (joinP tog0 ns)=entsL ns:=by
  exact join_lst (ns:=ns) (acc:=[]) h
end Go.Proofs.YtfnhmpcpeahfkaaGreat.Tree
