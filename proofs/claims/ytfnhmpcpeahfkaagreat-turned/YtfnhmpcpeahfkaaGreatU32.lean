/-
  Joined: POver, PEnts2, Within, PEnts3, PEnc, PNt.
-/
import Derived.Test.YtfnhmpcpeahfkaaGreatU31
set_option linter.unusedSimpArgs false
set_option linter.unusedVariables false
set_option maxRecDepth 100000
set_option maxHeartbeats 8000000
namespace Go.Proofs.YtfnhmpcpeahfkaaGreat.Tree
open Go.RowKit Pages
variable {c:Ch} {cs:List Ch} {es:List En} {fs:Fs} {n:NT} {p:Nat} {x:En}
def ovr:List En→List Ch→List En
 | [],cs=>cS cs
 | x :: es,cs=>cS (cs.take (cL cs x.e.key))++((if fnd cs x.e.key=true then [] else [x])++ovr es (cs.drop (cL cs x.e.key)))
theorem qFq:∀ (es:List En) (a:List En×List Ch),(es.foldl lH a).1++cS (es.foldl lH a).2=a.1++ovr es a.2
 | [],a=>rfl
 | x :: es,a=>by
  rw [List.foldl_cons,qFq es (lH a x)]
  simp [lH,ovr,List.append_assoc]
theorem qEj (es:List En) (cs:List Ch):bK es cs=ovr es cs:=by
 have:=qFq es ([],cs)
 simpa [bK,fK] using this
def cM (es:List En):Prop:=es.Pairwise (fun a b=>lt a.e.key b.e.key=true)
theorem qBd {y:En}:y∈cS cs↔∃ c∈cs,c.gone=false∧y=chE c:=by
 unfold cS
 simp only [List.mem_map,List.mem_filter,Bool.not_eq_true']
 constructor
 ·rintro⟨c,⟨h1,h2⟩,rfl⟩;exact⟨c,h1,h2,rfl⟩
 ·rintro⟨c,h1,h2,rfl⟩;exact⟨c,⟨h1,h2⟩,rfl⟩
theorem yP {k:ByteArray}  (h:c∈cs.take (cL cs k)):lt c.key k=true:=by
 obtain⟨i,hi,rfl⟩:=List.getElem_of_mem h
 rw [List.length_take] at hi
 rw [List.getElem_take]
 obtain⟨_,h'⟩:=rC (cs:=cs) (k:=k) (i:=i) (by omega)
 exact h'
theorem qZl (hr:cI cs) {k:ByteArray}  (h:c∈cs.drop (cL cs k)):lt c.key k=false:=by
 obtain⟨i,hi,rfl⟩:=List.getElem_of_mem h
 rw [List.length_drop] at hi
 rw [List.getElem_drop]
 exact oP hr (by omega) (by omega)
theorem yZ (hr:cI cs) (k:ByteArray):fnd cs k=true↔∃ c∈cs,c.key=k:=by
 unfold fnd
 cases h:cs[cL cs k]? with
 | none =>
  simp only [Bool.false_eq_true,false_iff]
  rintro⟨c,hc,rfl⟩
  rw [List.getElem?_eq_none_iff] at h
  obtain⟨i,hi,rfl⟩:=List.getElem_of_mem hc
  obtain⟨_,h'⟩:=rC (cs:=cs) (k:=cs[i].key) (i:=i) (by omega)
  rw [bZ] at h';cases h'
 | some c =>
  obtain⟨hi,hc⟩:=List.getElem?_eq_some_iff.1 h
  have hge:lt c.key k=false:=by rw [← hc];exact oP hr (Nat.le_refl _) hi
  simp only [Bool.not_eq_true']
  constructor
  ·intro hl
   exact⟨c,hc▸List.getElem_mem hi,lV hge hl⟩
  ·rintro⟨d,hd,rfl⟩
   obtain⟨j,hj,rfl⟩:=List.getElem_of_mem hd
   rcases Nat.lt_trichotomy j (cL cs cs[j].key) with h1|h1|h1
   ·obtain⟨_,h'⟩:=rC h1
    rw [bZ] at h';cases h'
   ·have:cs[j]=c:=by rw [← hc];congr 1
    rw [← this];exact bZ _
   ·have hp:=List.pairwise_iff_getElem.1 hr _ j hi hj h1
    rw [hc] at hp
    rw [hge] at hp;cases hp
theorem vX (n:Nat) :c∈cs↔c∈cs.take n∨c∈cs.drop n:=by
 conv=>lhs;rw [← List.take_append_drop n cs]
 exact List.mem_append
theorem qGz:∀ (es:List En) (cs:List Ch),cM es→cI cs→∀ y,y∈ovr es cs↔(∃ c∈cs,c.gone=false∧y=chE c)∨(y∈es∧∀ c∈cs,c.key≠y.e.key)
 | [],cs,_,_,y=>by simp only [ovr,qBd,List.not_mem_nil,false_and,or_false]
 | x :: es,cs,he,hr,y=>by
  have hrd:cI (cs.drop (cL cs x.e.key)):=List.Pairwise.sublist (List.drop_sublist _ _) hr
  obtain⟨hx,he'⟩:=List.pairwise_cons.1 he
  simp only [ovr,List.mem_append,qBd,qGz es _ he' hrd y]
  have hfi:=yZ hr x.e.key
  constructor
  ·rintro(⟨c,hc,hg,rfl⟩|hy|⟨c,hc,hg,rfl⟩|⟨hy,hn⟩)
   ·exact .inl ⟨c,List.mem_of_mem_take hc,hg,rfl⟩
   ·split at hy
    ·simp at hy
    ·rename_i hf
     obtain rfl:=List.mem_singleton.1 hy
     exact .inr ⟨by simp,fun c hc e=>hf (hfi.2 ⟨c,hc,e⟩)⟩
   ·exact .inl ⟨c,List.mem_of_mem_drop hc,hg,rfl⟩
   ·refine .inr ⟨List.mem_cons_of_mem _ hy,fun c hc e=>?_⟩
    rcases (vX (cL cs x.e.key)).1 hc with h|h
    ·have h1:=yP h
     have h2:=fR h1 (hx y hy)
     rw [e,bZ] at h2;cases h2
    ·exact hn c h e
  ·rintro(⟨c,hc,hg,rfl⟩|⟨hy,hn⟩)
   ·rcases (vX (cL cs x.e.key)).1 hc with h|h
    ·exact .inl ⟨c,h,hg,rfl⟩
    ·exact .inr (.inr (.inl ⟨c,h,hg,rfl⟩))
   ·rcases List.mem_cons.1 hy with rfl|hy
    ·refine .inr (.inl ?_)
     rw [if_neg (fun hf=>by obtain⟨c,hc,e⟩:=hfi.1 hf;exact hn c hc e)]
     simp
    ·exact .inr (.inr (.inr ⟨hy,fun c hc=>hn c (List.mem_of_mem_drop hc)⟩))
theorem qEb (hr:cI cs):cM (cS cs):=by
 unfold cS cM
 rw [List.pairwise_map]
 exact List.Pairwise.filter _ hr
theorem qIu:∀ (es:List En) (cs:List Ch),cM es→cI cs→cM (ovr es cs)
 | [],cs,_,hr=>qEb hr
 | x :: es,cs,he,hr=>by
  have hrd:cI (cs.drop (cL cs x.e.key)):=List.Pairwise.sublist (List.drop_sublist _ _) hr
  obtain⟨hx,he'⟩:=List.pairwise_cons.1 he
  have hrest:∀ y∈ovr es (cs.drop (cL cs x.e.key)),lt y.e.key x.e.key=false∧(fnd cs x.e.key=false→lt x.e.key y.e.key=true):=by
   intro y hy
   rcases (qGz es _ he' hrd y).1 hy with⟨c,hc,_,rfl⟩|⟨hy,_⟩
   ·have h1:=qZl hr hc
    refine⟨h1,fun hf=>?_⟩
    cases h2:lt x.e.key c.key with
    | true=>exact h2
    | false =>
     have:=(yZ hr x.e.key).2 ⟨c,List.mem_of_mem_drop hc,lV h1 h2⟩
     rw [hf] at this;cases this
   ·exact⟨uN (hx y hy),fun _=>hx y hy⟩
  have htk:∀ y∈cS (cs.take (cL cs x.e.key)),lt y.e.key x.e.key=true:=by
   intro y hy
   obtain⟨c,hc,_,rfl⟩:=qBd.1 hy
   exact yP hc
  have ih:=qIu es _ he' hrd
  simp only [ovr]
  refine List.pairwise_append.2 ⟨qEb (List.Pairwise.sublist (List.take_sublist _ _) hr),List.pairwise_append.2 ⟨?_,ih,?_⟩,?_⟩
  ·split<;>simp
  ·intro a ha b hb
   split at ha
   ·simp at ha
   ·rename_i hf
    obtain rfl:=List.mem_singleton.1 ha
    exact(hrest b hb).2 (by simpa using hf)
  ·intro a ha b hb
   rcases List.mem_append.1 hb with hb|hb
   ·split at hb
    ·simp at hb
    ·obtain rfl:=List.mem_singleton.1 hb
     exact htk a ha
   ·exact aA (htk a ha) (qAv.1 (hrest b hb).1)
theorem jQ {α:Type}:∀ (s:Sp) (ks:List ByteArray) (kids:List α),kids.length=ks.length+1→ks.Pairwise (fun a b=>lt a b=true)→(∀ k∈ks,lt s.lo k=true∧Sp.below s.hi k=true)→(parts s ks kids).Pairwise (fun x y=>x.2.hi≠⟨#[]⟩∧le x.2.hi y.2.lo=true)
 | s,_,[],hl,_,_=>by simp at hl
 | s,[],k :: kids,hl,_,_=>by
  have:kids=[]:=List.eq_nil_of_length_eq_zero (by simpa using hl)
  subst this
  simp [parts]
 | s,q :: ks,k :: kids,hl,hp,hb=>by
  obtain⟨hq,hp'⟩:=List.pairwise_cons.1 hp
  obtain⟨b1,b2⟩:=hb q (by simp)
  have hl':kids.length=ks.length+1:=by simpa using hl
  have hb':∀ x∈ks,lt q x=true∧Sp.below s.hi x=true:=fun x hx=>⟨hq x hx,(hb x (by simp [hx])).2⟩
  simp only [parts]
  refine List.pairwise_cons.2 ⟨fun y hy=>⟨fun e=>?_,(qAn ⟨q,s.hi⟩ ks kids hl' hp' hb' y hy).1⟩,jQ ⟨q,s.hi⟩ ks kids hl' hp' hb'⟩
  have e':q=⟨#[]⟩:=e
  rw [e',qWf] at b1;cases b1
theorem dF:∀ {h:Nat} {t:T} {s:Sp},aX fs h t s→cM (T.ents h t)
 | 0,.leaf p es,s,ht=>by
  obtain⟨g,hg,hk,he,_⟩:=ht
  have:=(qKn hg hk).1
  rw [he,List.pairwise_map] at this
  exact this
 | 0,.branch _ _ _,s,ht=>by simp [T.ents,cM]
 | h+1,.leaf _ _,s,ht=>by simp [aX] at ht
 | h+1,.branch p ks kids,s,ht=>by
  obtain⟨hl,hp,hb,_,hall⟩:=fC ht
  have hpp:=jQ s ks kids hl hp hb
  have key:∀ (l:List (T×Sp)),(∀ x∈l,aX fs h x.1 x.2)→l.Pairwise (fun x y=>x.2.hi≠⟨#[]⟩∧le x.2.hi y.2.lo=true)→cM ((l.map (·.1)).flatMap (T.ents h)):=by
   intro l hl hp
   induction l with
   | nil=>exact .nil
   | cons x l ih =>
    obtain⟨hx,hp'⟩:=List.pairwise_cons.1 hp
    rw [List.map_cons,List.flatMap_cons]
    refine List.pairwise_append.2 ⟨dF (hl x (by simp)),ih (fun y hy=>hl y (by simp [hy])) hp',?_⟩
    intro a ha b hb
    obtain⟨k,hk,hb⟩:=List.mem_flatMap.1 hb
    obtain⟨y,hy,rfl⟩:=List.mem_map.1 hk
    obtain⟨n1,n2⟩:=hx y hy
    have ia:=rO (hl x (by simp)) a ha
    have ib:=rO (hl y (by simp [hy])) b hb
    unfold Sp.has at ia ib
    rw [Bool.and_eq_true] at ia ib
    have la:lt a.e.key x.2.hi=true:=by
     rcases eX.1 ia.2 with h|h
     ·exact absurd h n1
     ·exact h
    exact aA (aA la n2) ib.1
  have:=key _ hall hpp
  rw [gJ] at this
  simpa only [T.ents] using this
def fA:Option (Nat×T)→List En
 | none=>[]
 | some (h,t)=>T.ents h t
theorem sU {root:Nat} {o:Option (Nat×T)} (hro:bF fs root o) (q:Sp):cK q o=(fA o).filter (fun x=>q.has x.e.key):=by
 cases o with
 | none=>rfl
 | some x=>exact qJb q hro.2.2
theorem gP {root:Nat} {o:Option (Nat×T)} (hro:bF fs root o):cM (fA o):=by
 cases o with
 | none=>exact .nil
 | some x=>exact dF hro.2.2
theorem pF {α:Type} (p:α→Bool):∀ (l:List α) (a b:Nat),(∀ m (h:m<l.length),p l[m]=(decide (a≤m)&&decide (m<b)))→l.filter p=(l.take b).drop a
 | [],_,_,_=>by simp
 | x :: l,a,0,h=>by
  rw [List.take_zero,List.drop_nil,List.filter_eq_nil_iff]
  intro y hy
  obtain⟨m,hm,rfl⟩:=List.getElem_of_mem hy
  rw [h m hm];simp
 | x :: l,0,b+1,h=>by
  have h0:=h 0 (by simp)
  simp only [List.getElem_cons_zero] at h0
  have hx:p x=true:=by rw [h0];simp
  rw [List.filter_cons_of_pos hx,List.take_succ_cons,List.drop_zero,pF p l 0 b (fun m hm=>by
   have:=h (m+1) (by simpa using hm)
   simp only [List.getElem_cons_succ] at this
   rw [this];simp),List.drop_zero]
 | x :: l,a+1,b+1,h=>by
  have h0:=h 0 (by simp)
  simp only [List.getElem_cons_zero] at h0
  have hx:¬ p x=true:=by rw [h0];simp
  rw [List.filter_cons_of_neg hx,List.take_succ_cons,List.drop_succ_cons,pF p l a b (fun m hm=>by
   have:=h (m+1) (by simpa using hm)
   simp only [List.getElem_cons_succ] at this
   rw [this];simp)]
theorem qPv (hr:cI cs) (k:ByteArray) (m:Nat) (hm:m<cs.length):lt cs[m].key k=decide (m<cL cs k):=by
 by_cases h:m<cL cs k
 ·obtain⟨_,h'⟩:=rC h
  rw [h'];simp [h]
 ·rw [oP hr (by omega) hm];simp [h]
def eF (cs:List Ch) (q:Sp):List Ch:=cs.filter (fun c=>q.has c.key)
theorem qYt (hr:cI cs) (q:Sp) (b:Nat) (hb:b=if isNil q.hi=true then cs.length else cL cs q.hi):eF cs q=(cs.take (max (cL cs q.lo) b)).drop (cL cs q.lo):=by
 refine pF _ cs _ _ (fun m hm=>?_)
 have h1:lt cs[m].key q.lo=decide (m<cL cs q.lo):=qPv hr q.lo m hm
 have h2:Sp.below q.hi cs[m].key=decide (m<b):=by
  unfold Sp.below
  cases hn:isNil q.hi
  ·rw [hn] at hb
   simp only [Bool.false_or]
   simp only [Bool.false_eq_true,if_false] at hb
   rw [hb];exact qPv hr q.hi m hm
  ·rw [hn] at hb
   simp only [if_true] at hb
   rw [hb];simp [hm]
 unfold Sp.has le
 rw [h1,h2]
 by_cases ha:m<cL cs q.lo
 ·have:¬ cL cs q.lo≤m:=by omega
  simp [ha,this]
 ·have h3:cL cs q.lo≤m:=by omega
  simp only [ha,h3,decide_false,decide_true,Bool.not_false,Bool.true_and]
  congr 1
  apply propext
  omega
def qHx (S:Bl) (ca:Option Addr) (cs:List Ch) (a:Option Addr) (c:Nat) (own:List Ch):Prop :=
 own.length≤c∧(∀ Wx,aL Wx S ca (cs.flatMap Ch.cells)→aL Wx S a (own.flatMap Ch.cells))∧((a=none∧c=0)∨∃ b off,a=some ⟨b,off,none⟩)
theorem qQx {S:Bl} {b off cc:Nat} {cs own:List Ch} (n t:Nat) (hcc:cs.length≤cc) (hn:n≤t) (ht:t≤cs.length) (ho:own=(cs.take t).drop n):qHx S (some ⟨b,off,none⟩) cs (if cc=n then some ⟨b,off,none⟩ else some ⟨b,off+n * 3,none⟩) (cc-n) own:=by
 have hl:own.length=t-n:=by rw [ho,List.length_drop,List.length_take];omega
 refine⟨by omega,fun Wx h=>?_,?_⟩
 ·by_cases hc:cc=n
  ·exact .inl (by rw [List.eq_nil_of_length_eq_zero (by omega:own.length=0)];rfl)
  ·rw [if_neg hc,ho]
   exact(h.takeZ (z:=3) t).dropZ n (fun x _=>rfl) (by rw [List.length_take];omega)
 ·by_cases hc:cc=n
  ·exact .inr ⟨b,off,by rw [if_pos hc]⟩
  ·exact .inr ⟨b,off+n * 3,by rw [if_neg hc]⟩
theorem qUq (a:ByteArray):(a.toList==([]:List UInt8))=isNil a:=by
 unfold isNil;cases a.toList<;>rfl
theorem zN (ca:Option Addr) (cc:Nat) (cs:List Ch) (q:Sp) (S:Bl) (w:World) (hR:aL w S ca (cs.flatMap Ch.cells)) (hS:∀ b,S b→b<w.heap.size) (hr:cI cs) (hn:cs.length≤1000000) (hc:cs.length≤cc) (hca:(ca=none∧cc=0)∨∃ b off,ca=some ⟨b,off,none⟩) :
  Calls Tryz.prog 137 #[.slice ca cs.length cc,.agg #[.string q.lo,.string q.hi]] w fun e w'=>∃ a c,e=.returned (.slice a (eF cs q).length c)∧qHx S ca cs a c (eF cs q)∧Below w.heap.size w w':=by
 obtain⟨W1,hW1⟩:=nM (w.alloc (.cells #[.string q.lo,.string q.hi] 135))
 have b1:Below w.heap.size w W1:=hW1▸(Below.refl _ _).alloc (Nat.le_refl _) _
 have x1:W1.heap[w.heap.size]?=some (.cells #[.string q.lo,.string q.hi] 135):=hW1▸aB w _
 obtain⟨m0,m1⟩:=bQ x1
 have z1:=(Array.getElem?_eq_some_iff.1 x1).1
 have hsr:∀ W k,Below w.heap.size w W→Calls Tryz.prog 72 #[.slice ca cs.length cc,.string k] W fun e w'=>e=.returned (.tuple #[.int .i64 (cL cs k),.bool (fnd cs k)])∧Below W.heap.size W w':=fun W k h=>lL ca cc cs k S W (hR.on (On.of_below h hS)) (fun b hb=>Nat.lt_of_lt_of_le (hS b hb) h.size) hr hn hc
 have hle:=oO cs q.lo
 have hle2:=oO cs q.hi
 have hE:=fun b hb=>qYt hr q b hb
 obtain⟨n,hn'⟩:∃ n,cL cs q.lo=n:=⟨_,rfl⟩
 obtain⟨t,ht'⟩:∃ t,cL cs q.hi=t:=⟨_,rfl⟩
 have hs1:=hsr W1 q.lo b1
 rw [hn'] at hle hs1
 simp only [hn',ht'] at hE
 rw [ht'] at hle2
 have hs2:=fun W h=>hsr W q.hi h
 simp only [ht'] at hs2
 clear hn' ht' hsr
 go_enter Tryz.func137,Tryz.ntmps137
 cases hnil:isNil q.hi
 ·have hne:(q.hi.toList==([]:List UInt8))=false:=by rw [qUq,hnil]
  have hO:Hid (eF cs q=(cs.take (max n t)).drop n):=hE t (by simp [hnil])
  have hOl:Hid ((eF cs q).length=max n t-n):=by show _=_;rw [hO.out,List.length_drop,List.length_take];omega
  clear hE
  rcases hca with⟨rfl,rfl⟩|⟨rb,ro,rfl⟩
  ·obtain rfl:cs=[]:=List.eq_nil_of_length_eq_zero (by omega)
   obtain rfl:n=0:=by simpa using hle
   obtain rfl:t=0:=by simpa using hle2
   go_wp2_with (go_at_call 72;first|(refine hs1.mono ?_;clear hs1;rintro e w2 ⟨rfl,hb2⟩;have b2:Below w.heap.size w w2:=b1.trans (hb2.mono b1.size);obtain⟨e0,e1⟩:=bQ ((hb2.block w.heap.size z1).trans x1))|(refine(hs2 _ b2).mono ?_;rintro e w3 ⟨rfl,hb3⟩;have b3:Below w.heap.size w w3:=b2.trans (hb3.mono b2.size)))
   go_ret
   exact⟨none,0,by rw [hOl.out];rfl,⟨by rw [hOl.out];simp,fun _ _=>.inl (by rw [List.eq_nil_of_length_eq_zero (by rw [hOl.out];rfl:(eF [] q).length=0)];rfl),.inl ⟨rfl,rfl⟩⟩,b3⟩
  ·skip
   have key:qHx S (some ⟨rb,ro,none⟩) cs (if cc=n then some ⟨rb,ro,none⟩ else some ⟨rb,ro+n * 3,none⟩) (cc-n) (eF cs q):=qQx n (max n t) hc (by omega) (by omega) hO.out
   by_cases hcn:cc=n
   ·subst cc
    have HOL:Hid ((eF cs q).length=0):=by show _=_;rw [hOl.out];omega
    have KEY:Hid (qHx S (some ⟨rb,ro,none⟩) cs (some ⟨rb,ro,none⟩) 0 (eF cs q)):=by rw [if_pos rfl,Nat.sub_self] at key;exact key
    have hts:(t:Int)≤(n:Int):=by omega
    clear hO hOl key
    go_wp2_with (go_at_call 72;first|(refine hs1.mono ?_;clear hs1;rintro e w2 ⟨rfl,hb2⟩;have b2:Below w.heap.size w w2:=b1.trans (hb2.mono b1.size);obtain⟨e0,e1⟩:=bQ ((hb2.block w.heap.size z1).trans x1))|(refine(hs2 _ b2).mono ?_;rintro e w3 ⟨rfl,hb3⟩;have b3:Below w.heap.size w w3:=b2.trans (hb3.mono b2.size)))
    all_goals go_ret
    all_goals exact⟨_,_,by rw [HOL.out];first|rfl|(simp;done)|(simp;omega),KEY.out,b3⟩
   ·have KEY:Hid (qHx S (some ⟨rb,ro,none⟩) cs (some ⟨rb,ro+n * 3,none⟩) (cc-n) (eF cs q)):=by rw [if_neg hcn] at key;exact key
    clear key
    by_cases hnt:n≤t
    ·have HOL:Hid ((eF cs q).length=t-n):=by show _=_;rw [hOl.out];omega
     have hnti:(n:Int)≤(t:Int):=by omega
     clear hO hOl
     go_wp2_with (go_at_call 72;first|(refine hs1.mono ?_;clear hs1;rintro e w2 ⟨rfl,hb2⟩;have b2:Below w.heap.size w w2:=b1.trans (hb2.mono b1.size);obtain⟨e0,e1⟩:=bQ ((hb2.block w.heap.size z1).trans x1))|(refine(hs2 _ b2).mono ?_;rintro e w3 ⟨rfl,hb3⟩;have b3:Below w.heap.size w w3:=b2.trans (hb3.mono b2.size)))
     all_goals go_ret
     all_goals exact⟨_,_,by rw [HOL.out];first|rfl|(simp;done)|(simp;omega),KEY.out,b3⟩
    ·have HOL:Hid ((eF cs q).length=n-n):=by show _=_;rw [hOl.out];omega
     have hnti:(t:Int)<(n:Int):=by omega
     clear hO hOl
     go_wp2_with (go_at_call 72;first|(refine hs1.mono ?_;clear hs1;rintro e w2 ⟨rfl,hb2⟩;have b2:Below w.heap.size w w2:=b1.trans (hb2.mono b1.size);obtain⟨e0,e1⟩:=bQ ((hb2.block w.heap.size z1).trans x1))|(refine(hs2 _ b2).mono ?_;rintro e w3 ⟨rfl,hb3⟩;have b3:Below w.heap.size w w3:=b2.trans (hb3.mono b2.size)))
     all_goals go_ret
     all_goals exact⟨_,_,by rw [HOL.out];first|rfl|(simp;done)|(simp;omega),KEY.out,b3⟩
 ·have hne:(q.hi.toList==([]:List UInt8))=true:=by rw [qUq,hnil]
  have hO:Hid (eF cs q=(cs.take (max n cs.length)).drop n):=hE cs.length (by simp [hnil])
  have hOl:Hid ((eF cs q).length=max n cs.length-n):=by show _=_;rw [hO.out,List.length_drop,List.length_take];omega
  clear hE
  rcases hca with⟨rfl,rfl⟩|⟨rb,ro,rfl⟩
  ·obtain rfl:cs=[]:=List.eq_nil_of_length_eq_zero (by omega)
   obtain rfl:n=0:=by simpa using hle
   go_wp2_with (go_at_call 72;refine hs1.mono ?_;clear hs1;rintro e w2 ⟨rfl,hb2⟩;have b2:Below w.heap.size w w2:=b1.trans (hb2.mono b1.size);obtain⟨e0,e1⟩:=bQ ((hb2.block w.heap.size z1).trans x1))
   go_ret
   exact⟨none,0,by rw [hOl.out];rfl,⟨by rw [hOl.out];simp,fun _ _=>.inl (by rw [List.eq_nil_of_length_eq_zero (by rw [hOl.out];rfl:(eF [] q).length=0)];rfl),.inl ⟨rfl,rfl⟩⟩,b2⟩
  ·skip
   have key:qHx S (some ⟨rb,ro,none⟩) cs (if cc=n then some ⟨rb,ro,none⟩ else some ⟨rb,ro+n * 3,none⟩) (cc-n) (eF cs q):=qQx n (max n cs.length) hc (by omega) (by omega) hO.out
   by_cases hcn:cc=n
   ·subst cc
    have HOL:Hid ((eF cs q).length=0):=by show _=_;rw [hOl.out];omega
    have KEY:Hid (qHx S (some ⟨rb,ro,none⟩) cs (some ⟨rb,ro,none⟩) 0 (eF cs q)):=by rw [if_pos rfl,Nat.sub_self] at key;exact key
    have hts:(cs.length:Int)≤(n:Int):=by omega
    clear hO hOl key
    go_wp2_with (go_at_call 72;refine hs1.mono ?_;clear hs1;rintro e w2 ⟨rfl,hb2⟩;have b2:Below w.heap.size w w2:=b1.trans (hb2.mono b1.size);obtain⟨e0,e1⟩:=bQ ((hb2.block w.heap.size z1).trans x1))
    all_goals go_ret
    all_goals exact⟨_,_,by rw [HOL.out];first|rfl|(simp;done)|(simp;omega),KEY.out,b2⟩
   ·have KEY:Hid (qHx S (some ⟨rb,ro,none⟩) cs (some ⟨rb,ro+n * 3,none⟩) (cc-n) (eF cs q)):=by rw [if_neg hcn] at key;exact key
    clear key
    by_cases hnt:n≤cs.length
    ·have HOL:Hid ((eF cs q).length=cs.length-n):=by show _=_;rw [hOl.out];omega
     have hnti:(n:Int)≤(cs.length:Int):=by omega
     clear hO hOl
     go_wp2_with (go_at_call 72;refine hs1.mono ?_;clear hs1;rintro e w2 ⟨rfl,hb2⟩;have b2:Below w.heap.size w w2:=b1.trans (hb2.mono b1.size);obtain⟨e0,e1⟩:=bQ ((hb2.block w.heap.size z1).trans x1))
     all_goals go_ret
     all_goals exact⟨_,_,by rw [HOL.out];first|rfl|(simp;done)|(simp;omega),KEY.out,b2⟩
    ·exact absurd hle hnt
theorem qAi:∀ {l m:List En},cM l→cM m→(∀ y,y∈l↔y∈m)→l=m
 | [],[],_,_,_=>rfl
 | [],y :: m,_,_,h=>absurd ((h y).2 (by simp)) (by simp)
 | x :: l,[],_,_,h=>absurd ((h x).1 (by simp)) (by simp)
 | x :: l,y :: m,hl,hm,h=>by
  obtain⟨hx,hl'⟩:=List.pairwise_cons.1 hl
  obtain⟨hy,hm'⟩:=List.pairwise_cons.1 hm
  have exy:x=y:=by
   rcases List.mem_cons.1 ((h x).1 (by simp)) with e|e
   ·exact e
   ·rcases List.mem_cons.1 ((h y).2 (by simp)) with e'|e'
    ·exact e'.symm
    ·have:=fR (hx y e') (hy x e)
     rw [bZ] at this;cases this
  subst exy
  rw [qAi hl' hm' (fun z=>?_)]
  constructor
  ·intro hz
   rcases List.mem_cons.1 ((h z).1 (by simp [hz])) with rfl|hz'
   ·have:=hx z hz;rw [bZ] at this;cases this
   ·exact hz'
  ·intro hz
   rcases List.mem_cons.1 ((h z).2 (by simp [hz])) with rfl|hz'
   ·have:=hy z hz;rw [bZ] at this;cases this
   ·exact hz'
def fQ (next:Nat) (d:ByteArray):Pg:=⟨4,0,0,next,[],[],[],d⟩
def eH (es:List En):Pg:=⟨3,0,0,0,[],[],es.map (·.e),⟨#[]⟩⟩
def eK (los:List ByteArray) (pls:List Nat):Pg:=⟨2,0,0,0,los,pls.map (fun n:Nat=>(n:Int)),[],⟨#[]⟩⟩
def bO (ver root:Int):Pg:=⟨1,ver,root,0,[],[],[],⟨#[]⟩⟩
theorem rP (G:Pg) (hr:dO G.kind G.ver G.root G.next G.keys G.kids G.ents G.data=true) (hl:(fieldsB G.kind G.ver G.root G.next G.keys G.kids G.ents G.data).length≤252):G.encE=0:=by
 unfold Pg.encE Pages.cH
 rw [if_pos (by rw [hr];simpa using hl)]
theorem vV:(⟨#[]⟩:ByteArray).toList.isEmpty=true:=by rw [ByteArray.toList_eq];rfl
theorem nK (s:ByteArray):(dN s).length=s.size+1:=by
 unfold dN
 rw [List.length_append,Array.length_toList]
 show 1+s.size=_
 omega
theorem uY (ver root:Int) (h0:0≤ver) (h1:root=0∨aU root=true):(bO ver root).encE=0:=by
 refine rP _ ?_ ?_
 ·rcases h1 with h|h<;>simp [bO,dO,fB,jR,jD,qEq,h0,h,vV]
 ·simp [bO,fieldsB,aM]
theorem qLd (next:Nat) (d:ByteArray) (h1:next=0∨aU next=true) (h2:1≤d.size) (h3:d.size≤240):(fQ next d).encE=0:=by
 refine rP _ ?_ ?_
 ·rcases h1 with h|h<;>simp [fQ,dO,fB,jR,jE,qAs,h,h2,h3]
 ·have:=nK d
  simp [fQ,fieldsB,aM]
  omega
theorem qEw:∀ (es:List Ent) (last:ByteArray),es.Pairwise (fun a b=>lt a.key b.key=true)→(∀ e∈es,lt last e.key=true∧e.key.size≤24∧nI e.val e.size e.over=true)→fJ last es=true
 | [],_,_,_=>rfl
 | e :: r,last,hp,h=>by
  obtain⟨h1,h2⟩:=List.pairwise_cons.1 hp
  obtain⟨a1,a2,a3⟩:=h e (by simp)
  simp only [fJ,Bool.and_eq_true,gG]
  refine⟨⟨⟨a1,by simpa using a2⟩,a3⟩,qEw r e.key h2 (fun x hx=>?_)⟩
  obtain⟨_,b2,b3⟩:=h x (by simp [hx])
  exact⟨h1 x hx,b2,b3⟩
theorem qAh:∀ (ks:List ByteArray) (last:ByteArray),ks.Pairwise (fun a b=>lt a b=true)→(∀ k∈ks,lt last k=true∧k.size≤24)→fL last ks=true
 | [],_,_,_=>rfl
 | k :: r,last,hp,h=>by
  obtain⟨h1,h2⟩:=List.pairwise_cons.1 hp
  obtain⟨a1,a2⟩:=h k (by simp)
  simp only [fL,Bool.and_eq_true,gG]
  exact⟨⟨a1,by simpa using a2⟩,qAh r k h2 (fun x hx=>⟨h1 x hx,(h x (by simp [hx])).2⟩)⟩
theorem qZi (x:En) (h:nI x.e.val x.e.size x.e.over=true):(Ent.bytes x.e).length=esz x:=by
 unfold Ent.bytes kG esz
 rw [List.length_append,nK]
 simp only [nI,Bool.or_eq_true,Bool.and_eq_true,beq_iff_eq,decide_eq_true_eq] at h
 rcases h with⟨⟨h1,h2⟩,h3⟩|⟨⟨⟨h1,h2⟩,h3⟩,h4⟩
 ·rw [if_pos (by simp [h1]),if_neg (by omega),List.length_append,nK]
  simp;omega
 ·have h0:¬ (x.e.over==0)=true:=by
   intro e
   rw [beq_iff_eq.1 e] at h1
   simp [aU] at h1
  rw [if_neg h0,if_pos h3,List.length_append,List.length_append,aM,aM]
  simp
theorem qLb:∀ (es:List En),(∀ x∈es,nI x.e.val x.e.size x.e.over=true)→((es.map (·.e)).flatMap Ent.bytes).length=tot esz es
 | [],_=>rfl
 | x :: es,h=>by
  rw [List.map_cons,List.flatMap_cons,List.length_append,gD,qZi x (h x (by simp)),qLb es (fun y hy=>h y (by simp [hy]))]
theorem qXd (es:List En) (hne:es≠[]) (hr:cM es) (hk:∀ x∈es,lt ⟨#[]⟩ x.e.key=true∧x.e.key.size≤24∧nI x.e.val x.e.size x.e.over=true) (hs:tot esz es≤250):(eH es).encE=0:=by
 have hok:fJ ⟨#[]⟩ (es.map (·.e))=true:=qEw _ _ (by rw [List.pairwise_map];exact hr) (fun e he=>by
  obtain⟨x,hx,rfl⟩:=List.mem_map.1 he
  exact hk x hx)
 refine rP _ ?_ ?_
 ·have hne':es.map (·.e)≠[]:=by simpa using hne
  simp [eH,dO,jE,fB,jD,hok,hne,vV]
 ·have h2:=qLb es (fun x hx=>(hk x hx).2.2)
  simp only [eH,fieldsB,kM,List.length_append,aM,if_neg (show ¬ (3:Int)=1 by decide),if_neg (show ¬ (3:Int)=2 by decide),if_pos]
  omega
theorem qKd:∀ (l:List Int),(l.flatMap (beB 2)).length=2 * l.length
 | []=>rfl
 | x :: l=>by rw [List.flatMap_cons,List.length_append,aM,qKd l,List.length_cons];omega
theorem qKf:∀ (l:List ByteArray),(l.flatMap dN).length=tot (fun k:ByteArray=>k.size+1) l
 | []=>rfl
 | x :: l=>by rw [List.flatMap_cons,List.length_append,nK,qKf l,gD]
theorem qXe (los:List ByteArray) (pls:List Nat) (hne:los≠[]) (hl:pls.length=los.length+1) (hr:los.Pairwise (fun a b=>lt a b=true)) (hk:∀ k∈los,lt ⟨#[]⟩ k=true∧k.size≤24) (hp:∀ p∈pls,aU (p:Nat)=true) (hs:2 * pls.length+tot (fun k:ByteArray=>k.size+1) los≤250):(eK los pls).encE=0:=by
 refine rP _ ?_ ?_
 ·have h1:=qAh los ⟨#[]⟩ hr hk
  have h2:(pls.map (fun n:Nat=>(n:Int))).all aU=true:=by
   rw [List.all_eq_true]
   intro x hx
   obtain⟨p,hpp,rfl⟩:=List.mem_map.1 hx
   exact hp p hpp
  simp only [eK,dO,jE,jR,jD,gH,h1,h2,vV,if_neg (show ¬ (2:Int)=1 by decide),if_pos,List.length_map,hl]
  simp [hne]
 ·simp only [eK,fieldsB,eA,List.length_append,aM,if_neg (show ¬ (2:Int)=1 by decide),if_pos,qKd,qKf,List.length_map]
  omega
theorem qKo {g:Pg} (h:fs.has p g) (hk:g.kind=2):∀ k∈g.kids,aU k=true:=by
 have:=rL h
 rw [hk] at this
 simp only [dO,if_neg (show ¬ (2:Int)=1 by decide),if_pos,Bool.and_eq_true,gH,List.all_eq_true] at this
 exact this.2.1.2
theorem qWo {g:Pg} (h:fs.has p g) (hk:g.kind=4):g.next=0∨aU g.next=true:=by
 have:=rL h
 rw [hk] at this
 simp only [dO,if_neg (show ¬ (4:Int)=1 by decide),if_neg (show ¬ (4:Int)=2 by decide),if_neg (show ¬ (4:Int)=3 by decide),if_pos,Bool.and_eq_true,qAs,Bool.or_eq_true,beq_iff_eq] at this
 exact this.2.1
theorem mB (g:Pg) (hE:g.encE=0):g.encS.size=256:=by
 unfold Pg.encE Pages.cH at hE
 split at hE
 ·rename_i hT
  unfold Pg.encS Pages.encS
  rw [if_pos hT]
  simp only [Bool.and_eq_true,decide_eq_true_eq] at hT
  show (qO _).toArray.size=256
  simp only [List.size_toArray,qO,yI,List.length_append,List.length_replicate,aM]
  omega
 ·simp at hE
theorem qCc (g:Pg) (hv:g.ver<9223372036854775808) (hE:g.encE=0):qHw g.encS g:=by
 have h:=qMu g hv hE
 exact⟨mB g hE,by rw [h];exact hE,by rw [h],h.symm⟩
inductive NT where
  | kept (t:T) (s:Sp)
  | leaf (s:Sp) (es:List En)
  | bran (s:Sp) (ks:List NT)
def NT.sp:NT→Sp
  | .kept _ s=>s
  | .leaf s _=>s
  | .bran s _=>s
def yK (n:NT):Nat:=n.sp.lo.size+3
def qEv (p:List En):NT:=.leaf ⟨iJ p,⟨#[]⟩⟩ p
def cQ (es:List En):List NT:=(dZ esz es).map qEv
def sO:NT→Bool
  | .kept _ _=>false
  | .leaf _ es=>decide (tot esz es<62)
  | .bran _ ks=>decide (tot yK ks<62)
def NT.ents0:NT→List En
  | .kept (.leaf _ es) _=>es
  | .kept (.branch _ _ _) _=>[]
  | .leaf _ es=>es
  | .bran _ _=>[]
def gF (tog:NT→NT→List NT) (acc:List NT) (n:NT):List NT :=
  match acc.getLast? with
  | none=>[n]
  | some l=>if sO l=true∨sO n=true then acc.dropLast++tog l n else acc++[n]
def kD (tog:NT→NT→List NT) (ns:List NT):List NT:=ns.foldl (gF tog) []
def eB (a b:NT):List NT:=cQ (a.ents0++b.ents0)
def cP (ns:List NT):List En:=ns.flatMap NT.ents0
def En.good (fs:Fs) (x:En):Prop:=lt ⟨#[]⟩ x.e.key=true∧x.e.key.size≤24 ∧
  ((x.e.over=0∧x.ch=[]∧x.e.size=(x.e.val.size:Int)∧x.e.val.size≤400) ∨
   (x.e.val=⟨#[]⟩∧aU x.e.over=true∧∃ size over:Nat,x.e.size=size∧x.e.over=over∧60<size∧size≤400∧dL fs over size x.ch))
theorem qWr (h:x.good fs):esz x≤87:=by
  obtain⟨_,hk,h|⟨hv,_,sz,ov,h1,_,h2,_⟩⟩:=h
  · obtain⟨_,_,h1,h2⟩:=h
    unfold esz;split<;>omega
  · unfold esz;rw [h1,if_pos (by omega)];omega
theorem oB (h:x.good fs):x.fits:=by
  obtain⟨_,hk,h|⟨hv,_⟩⟩:=h
  · exact⟨hk,h.2.2.2⟩
  · refine⟨hk,?_⟩;rw [hv];decide
def Ok0 (fs:Fs):NT→Prop
  | .kept (.leaf p es) s=>aX fs 0 (.leaf p es) s
  | .kept (.branch _ _ _) _=>False
  | .leaf s es=>es≠[]∧s.lo=iJ es∧cM es∧tot esz es≤250∧∀ x∈es,x.good fs
  | .bran _ _=>False
def vBr (a b:NT):Prop:=∀ x∈a.ents0,lt x.e.key b.sp.lo=true
structure Lst (fs:Fs) (ns:List NT):Prop where
  ok:∀ n∈ns,Ok0 fs n
  lo:∀ n∈ns,∀ x∈n.ents0,le n.sp.lo x.e.key=true
  sep:ns.Pairwise vBr
theorem qRx {l:List En}:cM (x :: l)↔(∀ y∈l,lt x.e.key y.e.key=true)∧cM l:=List.pairwise_cons
theorem pU {l m:List En}:cM (l++m)↔cM l∧cM m∧∀ x∈l,∀ y∈m,lt x.e.key y.e.key=true:=List.pairwise_append
theorem qKu (h:cM es):∀ x∈es,le (iJ es) x.e.key=true:=by
  intro x hx
  cases es with
  | nil=>simp at hx
  | cons y l =>
    rcases List.mem_cons.1 hx with rfl|hx
    · exact aD _
    · exact jI ((qRx.1 h).1 x hx)
theorem uW (h:es≠[]):∃ x∈es,iJ es=x.e.key:=by
  cases es with
  | nil=>exact absurd rfl h
  | cons y l=>exact⟨y,by simp,rfl⟩
theorem qAm:∀ {ps:List (List En)},cM ps.flatten→(∀ x∈ps.flatten,x.good fs)→(∀ p∈ps,p≠[])→(∀ p∈ps,tot esz p≤250)→Lst fs (ps.map qEv)
  | [],_,_,_,_=>⟨by simp,by simp,by simp⟩
  | p :: ps,hr,hg,hne,hf=>by
    rw [List.flatten_cons] at hr hg
    obtain⟨h1,h2,h3⟩:=pU.1 hr
    have ih:=qAm h2 (fun x hx=>hg x (by simp only [List.mem_append];exact .inr hx)) (fun q hq=>hne q (by simp [hq])) (fun q hq=>hf q (by simp [hq]))
    have hp:Ok0 fs (qEv p):=⟨hne p (by simp),rfl,h1,hf p (by simp),fun x hx=>hg x (by simp [hx])⟩
    refine⟨?_,?_,?_⟩
    · rw [List.map_cons];intro n hn
      rcases List.mem_cons.1 hn with rfl|hn
      · exact hp
      · exact ih.ok n hn
    · rw [List.map_cons];intro n hn
      rcases List.mem_cons.1 hn with rfl|hn
      · exact qKu h1
      · exact ih.lo n hn
    · rw [List.map_cons]
      refine List.pairwise_cons.2 ⟨fun n hn x hx=>?_,ih.sep⟩
      obtain⟨q,hq,rfl⟩:=List.mem_map.1 hn
      obtain⟨y,hy,e⟩:=uW (hne q (by simp [hq]))
      show lt x.e.key (iJ q)=true
      rw [e]
      exact h3 x hx y (List.mem_flatten.2 ⟨q,hq,hy⟩)
theorem mS (hg:∀ x∈es,x.good fs):∀ x∈es,esz x≤250:=fun x hx=>by have:=qWr (hg x hx);omega
theorem mQ (hr:cM es) (hg:∀ x∈es,x.good fs):Lst fs (cQ es):=by
  have h:=oD esz es (mS hg)
  exact qAm (by rw [h];exact hr) (by rw [h];exact hg) (zD esz es (mS hg)) (qXj esz es)
theorem qHi (ps:List (List En)):cP (ps.map qEv)=ps.flatten:=by
  induction ps with
  | nil=>rfl
  | cons p ps ih=>simp only [cP,List.map_cons,List.flatMap_cons,List.flatten_cons] at ih ⊢;rw [ih];rfl
theorem fW (hg:∀ x∈es,x.good fs):cP (cQ es)=es:=by
  rw [cQ,qHi,oD esz es (mS hg)]
theorem sZ (hg:∀ x∈es,x.good fs):∀ n∈cQ es,∃ x∈es,n.sp.lo=x.e.key:=by
  intro n hn
  obtain⟨p,hp,rfl⟩:=List.mem_map.1 hn
  obtain⟨x,hx,e⟩:=uW (zD esz es (mS hg) p hp)
  refine⟨x,?_,e⟩
  rw [← oD esz es (mS hg)]
  exact List.mem_flatten.2 ⟨p,hp,hx⟩
theorem tC (hg:∀ x∈es,x.good fs):∀ n∈cQ es,∀ x∈n.ents0,x∈es:=by
  intro n hn x hx
  rw [← fW hg]
  exact List.mem_flatMap.2 ⟨n,hn,hx⟩
theorem eZ {s:Sp} (h:aX fs 0 (.leaf p es) s):∀ x∈es,x.good fs:=by
  obtain⟨g,hg,hk,he,_,_,hok⟩:=h
  intro x hx
  obtain⟨_,hl⟩:=qKn hg hk
  obtain⟨h1,h2,h3⟩:=hl x.e (by rw [he];exact List.mem_map.2 ⟨x,hx,rfl⟩)
  refine⟨h1,h2,?_⟩
  obtain⟨sz,ov,o1,o2,o3,o4⟩:=hok x hx
  simp only [nI,Bool.or_eq_true,Bool.and_eq_true,beq_iff_eq,decide_eq_true_eq] at h3
  rcases h3 with⟨⟨a1,a2⟩,a3⟩|⟨⟨⟨a1,a2⟩,a3⟩,a4⟩
  · rcases o4 with⟨_,hc⟩|⟨hp,_⟩
    · exact .inl ⟨a1,hc,a3,by omega⟩
    · omega
  · have:ov≠0:=by
      intro e
      rw [o2,e] at a1
      simp [aU] at a1
    rcases o4 with⟨h0,_⟩|⟨_,hc⟩
    · exact absurd h0 this
    · exact .inr ⟨by exact lC.1 a2,a1,sz,ov,o1,o2,by omega,o3,hc⟩
theorem eR (h:Ok0 fs n):n.ents0≠[]∧cM n.ents0∧∀ x∈n.ents0,x.good fs:=by
  cases n with
  | kept t s =>
    cases t with
    | leaf p es=>exact⟨by obtain⟨g,_,_,_,hne,_⟩:=h;exact hne,dF (h:=0) h,eZ h⟩
    | branch=>exact h.elim
  | leaf s es=>exact⟨h.1,h.2.2.1,h.2.2.2.2⟩
  | bran=>exact h.elim
theorem Lst.rise:∀ {ns:List NT},Lst fs ns→cM (cP ns)
  | [],_=>.nil
  | n :: ns,h=>by
    obtain⟨h1,h2⟩:=List.pairwise_cons.1 h.sep
    have ih:=Lst.rise (ns:=ns) ⟨fun m hm=>h.ok m (by simp [hm]),fun m hm=>h.lo m (by simp [hm]),h2⟩
    rw [cP,List.flatMap_cons]
    refine pU.2 ⟨(eR (h.ok n (by simp))).2.1,ih,fun x hx y hy=>?_⟩
    obtain⟨m,hm,hy⟩:=List.mem_flatMap.1 hy
    exact aA (h1 m hm x hx) (h.lo m (by simp [hm]) y hy)
theorem Lst.good {ns:List NT} (h:Lst fs ns):∀ x∈cP ns,x.good fs:=by
  intro x hx
  obtain⟨m,hm,hx⟩:=List.mem_flatMap.1 hx
  exact(eR (h.ok m hm)).2.2 x hx
theorem kS (a b:List NT):cP (a++b)=cP a++cP b:=by simp [cP]
theorem Lst.tog {A B:List NT} {l n:NT} (h:Lst fs (A++l :: n :: B)):Lst fs (A++(eB l n++B))∧cP (A++(eB l n++B))=cP (A++l :: n :: B):=by
  obtain⟨sA,sB,sAB⟩:=List.pairwise_append.1 h.sep
  obtain⟨sl,sB⟩:=List.pairwise_cons.1 sB
  obtain⟨sn,sB⟩:=List.pairwise_cons.1 sB
  obtain⟨l1,l2,l3⟩:=eR (h.ok l (by simp))
  obtain⟨n1,n2,n3⟩:=eR (h.ok n (by simp))
  have hrise:cM (l.ents0++n.ents0):=pU.2 ⟨l2,n2,fun x hx y hy=>aA (sl n (by simp) x hx) (h.lo n (by simp) y hy)⟩
  have hgood:∀ x∈l.ents0++n.ents0,x.good fs:=fun x hx=>(List.mem_append.1 hx).elim (l3 x) (n3 x)
  have hM:=mQ hrise hgood
  refine⟨⟨?_,?_,?_⟩,?_⟩
  · intro m hm
    simp only [List.mem_append] at hm
    rcases hm with hm|hm|hm
    · exact h.ok m (by simp [hm])
    · exact hM.ok m hm
    · exact h.ok m (by simp [hm])
  · intro m hm
    simp only [List.mem_append] at hm
    rcases hm with hm|hm|hm
    · exact h.lo m (by simp [hm])
    · exact hM.lo m hm
    · exact h.lo m (by simp [hm])
  · refine List.pairwise_append.2 ⟨sA,List.pairwise_append.2 ⟨hM.sep,sB,fun m hm b hb x hx=>?_⟩,fun a ha m hm x hx=>?_⟩
    · rcases List.mem_append.1 (tC hgood m hm x hx) with hx|hx
      · exact sl b (by simp [hb]) x hx
      · exact sn b hb x hx
    · rcases List.mem_append.1 hm with hm|hm
      · obtain⟨y,hy,e⟩:=sZ hgood m hm
        rw [e]
        rcases List.mem_append.1 hy with hy|hy
        · exact aA (sAB a ha l (by simp) x hx) (h.lo l (by simp) y hy)
        · exact aA (sAB a ha n (by simp) x hx) (h.lo n (by simp) y hy)
      · exact sAB a ha m (by simp [hm]) x hx
  · rw [kS,kS,kS]
    show _++(cP (cQ _)++_)=_
    rw [fW hgood]
    simp [cP]
theorem nV {acc:List NT}  {B:List NT} (h:Lst fs (acc++n :: B)):Lst fs (gF eB acc n++B)∧cP (gF eB acc n++B)=cP (acc++n :: B):=by
  unfold gF
  rcases List.eq_nil_or_concat acc with rfl|⟨A,l,rfl⟩
  · simpa using h
  · simp only [List.concat_eq_append] at h ⊢
    rw [List.getLast?_append]
    simp only [List.getLast?_singleton,Option.some_or]
    split
    · rw [List.dropLast_concat,List.append_assoc]
      have h':Lst fs (A++l :: n :: B):=by simpa using h
      have:=h'.tog
      simpa using this
    · simpa using h
theorem qKg:∀ {ns acc:List NT},Lst fs (acc++ns)→Lst fs (ns.foldl (gF eB) acc)∧cP (ns.foldl (gF eB) acc)=cP (acc++ns)
  | [],acc,h=>by simpa using h
  | n :: ns,acc,h=>by
    obtain⟨h1,h2⟩:=nV h
    obtain⟨h3,h4⟩:=qKg h1
    exact⟨h3,h4.trans h2⟩
theorem qFk {ns:List NT} (h:Lst fs ns):Lst fs (kD eB ns)∧cP (kD eB ns)=cP ns:=by
  exact qKg (ns:=ns) (acc:=[]) h
end Go.Proofs.YtfnhmpcpeahfkaaGreat.Tree
