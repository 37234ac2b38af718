/-Rows of cells: sorted by addr.Order; told by append. -/
import Derived.Test.YtecjfnkakodebaaGreatDoorQwIe
import Derived.Test.YtecjfnkakodebaaGreatDoorQwDb
import Derived.Test.YtecjfnkakodebaaGreatDoorQwXk
import Derived.Sort.Grow
import Derived.Sort.Statements
set_option maxHeartbeats 2000000
namespace Go.Proofs.YtecjfnkakodebaaGreatDoor
open Go.RowKit Go.Sort Go.Lib
def Grn (w w':World):Prop:=∃q os,w'=Sort.grow (w.drewN q) os
namespace Grn
theorem refl (w:World):Grn w w:=⟨0,#[],by rw[Sort.grow_empty];rfl⟩
theorem alloc {w w1:World} (h:Grn w w1) (o:Obj):Grn w (w1.alloc o):=by
 obtain⟨q,os,rfl⟩:=h
 exact⟨q,os ++ #[o],by rw[Sort.alloc_eq_grow,Sort.grow_grow]⟩
theorem drew {w w1:World} (h:Grn w w1):Grn w w1.drew:=by
 obtain⟨q,os,rfl⟩:=h
 exact⟨q+1,os,rfl⟩
theorem trans {w w1 w2:World} (h:Grn w w1) (g:Grn w1 w2):Grn w w2:=by
 obtain⟨q,os,rfl⟩:=h
 obtain⟨q',os',rfl⟩:=g
 refine⟨q+q',os++os',?_⟩
 rw[<- Sort.grow_grow]
 show Sort.grow (Sort.grow ((w.drewN q).drewN q') os) os'=_
 congr 1
 unfold World.drewN
 simp[Nat.add_assoc]
theorem kp {w w1:World} (h:Grn w w1) {S:Nat->Prop}:Kp w w1 S:=by
 obtain⟨q,os,rfl⟩:=h
 refine⟨rfl,rfl,rfl,?_,fun i hi _=>Sort.heap_grow_old (w.drewN q) os hi⟩
 rw[Sort.size_grow]
 exact Nat.le_add_right _ _
end Grn
theorem pOrder_x (c r d s:Int) (w:World) :
  Calls Tryz.prog 154 #[.agg #[.int .i64 c,.int .i64 r],.agg #[.int .i64 d,.int .i64 s]] w fun e w'=>e=.returned (.int .i64 (ordC c r d s))/\Grn w w':=by
 have G1:Hid (∀a t,Grn w (((w.alloc (.cells #[.int .i64 c,.int .i64 r] 32)).alloc (.cells #[.int .i64 d,.int .i64 s] 32)).alloc (.cells a t))):=fun a t=>(((Grn.refl w).alloc _).alloc _).alloc _
 have H1:Hid (∀w,Calls Tryz.prog 136 #[.int .i64 r,.int .i64 s] w fun e w'=>e=.returned (.int .i64 (cmpI r s))/\w'=w):=pCompare_any r s
 have H2:Hid (∀w,Calls Tryz.prog 136 #[.int .i64 c,.int .i64 d] w fun e w'=>e=.returned (.int .i64 (cmpI c d))/\w'=w):=pCompare_any c d
 have H3:Hid (∀t,Calls Tryz.prog 171 #[.slice (some ⟨w.heap.size+1+1,0,none⟩) 2 2] (((w.alloc (.cells #[.int .i64 c,.int .i64 r] 32)).alloc (.cells #[.int .i64 d,.int .i64 s] 32)).alloc (.cells #[.int .i64 (cmpI r s),.int .i64 (cmpI c d)] t)).drew fun e w'=>e=.returned (.int .i64 (ordC c r d s))/\Grn w w'/\w'.cell? ⟨w.heap.size,0,none⟩=some (.int .i64 c)/\w'.cell? ⟨w.heap.size,1,none⟩=some (.int .i64 r)/\w'.cell? ⟨w.heap.size+1,0,none⟩=some (.int .i64 d)/\w'.cell? ⟨w.heap.size+1,1,none⟩=some (.int .i64 s)):=fun t=>by
  have hh:=has2_new ((w.alloc (.cells #[.int .i64 c,.int .i64 r] 32)).alloc (.cells #[.int .i64 d,.int .i64 s] 32)) (.int .i64 (cmpI r s)) (.int .i64 (cmpI c d)) t
  rw[World.size_alloc,World.size_alloc] at hh
  unfold ordC
  refine Calls.mono (pOr_two (w.heap.size+1+1) (cmpI r s) (cmpI c d) _ ?_ ?_) ?_
  ·exact hh.1.1
  ·exact hh.1.2
  intro e w' h
  refine⟨h.1,?_⟩
  rw[h.2]
  have ga:=(has2_new w (.int .i64 c) (.int .i64 r) 32).gr (((Gr.refl _).alloc #[.int .i64 d,.int .i64 s] 32).alloc #[.int .i64 (cmpI r s),.int .i64 (cmpI c d)] t)
  have gb:=(has2_new (w.alloc (.cells #[.int .i64 c,.int .i64 r] 32)) (.int .i64 d) (.int .i64 s) 32).gr ((Gr.refl _).alloc #[.int .i64 (cmpI r s),.int .i64 (cmpI c d)] t)
  rw[World.size_alloc] at gb
  exact⟨(G1.out _ _).drew,ga.1.1,ga.1.2,gb.1.1,gb.1.2⟩
 generalize ordC c r d s=V at *
 generalize cmpI r s=p at *
 generalize cmpI c d=q at *
 go_enter Tryz.func154,Tryz.ntmps154
 go_wp2_with fail
 go_region_held3 (fun w'=>w'.cell? ⟨w.heap.size,0,none⟩=some (.int .i64 c)/\w'.cell? ⟨w.heap.size,1,none⟩=some (.int .i64 r)/\w'.cell? ⟨w.heap.size+1,0,none⟩=some (.int .i64 d)/\w'.cell? ⟨w.heap.size+1,1,none⟩=some (.int .i64 s)) (go_keep) (first
  | (go_at_call_of 136 (Value.int .i64 r);refine(H1.out _).mono ?_;rintro e w' ⟨rfl,rfl⟩)
  | (go_at_call_of 136 (Value.int .i64 c);refine(H2.out _).mono ?_;rintro e w' ⟨rfl,rfl⟩)
  | (go_at_call 171;refine(H3.out _).mono ?_;rintro e w' ⟨rfl,hg,k0,k1,k2,k3⟩))
 all_goals
  have HG:Hid (Grn w w'):=hg
  clear hg
  go_wp2_with fail
  go_ret
  exact⟨rfl,HG.out⟩
section
variable {α:Type} {lt:α->α->Bool}
theorem sorted_same (hi:∀x,lt x x=false) (ht:∀x y z,lt x y=true->lt y z=true->lt x z=true):∀ {l l':List α},l.Pairwise (fun x y=>lt x y=true)->l'.Pairwise (fun x y=>lt x y=true)->(∀x,x∈l↔x∈l')->l=l'
 | [],[],_,_,_=>rfl
 | [],y::ys,_,_,h=>by have:=(h y).2 (List.mem_cons_self ..);cases this
 | x::xs,[],_,_,h=>by have:=(h x).1 (List.mem_cons_self ..);cases this
 | x::xs,y::ys,h1,h2,h=>by
  have p1:=List.pairwise_cons.1 h1
  have p2:=List.pairwise_cons.1 h2
  have exy:x=y:=by
   rcases List.mem_cons.1 ((h x).1 (List.mem_cons_self ..)) with e|e
   ·exact e
   ·rcases List.mem_cons.1 ((h y).2 (List.mem_cons_self ..)) with e' | e'
    ·exact e'.symm
    ·have:=ht _ _ _ (p1.1 y e') (p2.1 x e)
     rw[hi] at this;cases this
  subst exy
  congr 1
  refine sorted_same hi ht p1.2 p2.2 (fun z=>⟨fun hz=>?_,fun hz=>?_⟩)
  ·rcases List.mem_cons.1 ((h z).1 (List.mem_cons_of_mem _ hz)) with e|e
   ·subst e
    have:=p1.1 z hz
    rw[hi] at this;cases this
   ·exact e
  ·rcases List.mem_cons.1 ((h z).2 (List.mem_cons_of_mem _ hz)) with e|e
   ·subst e
    have:=p2.1 z hz
    rw[hi] at this;cases this
   ·exact e
variable [Inhabited α]
theorem merge_sorted (hO:SWO lt) (d:List α):∀i j,i<j->j<(d.mergeSort (fun x y=>!lt y x)).toArray.size->lt ((d.mergeSort (fun x y=>!lt y x)).toArray[j]!) ((d.mergeSort (fun x y=>!lt y x)).toArray[i]!)=false:=by
 have hp:=List.pairwise_mergeSort (le:=fun x y=>!lt y x) (fun a b c h1 h2=>by
  simp only[Bool.not_eq_true'] at h1 h2 ⊢
  exact hO.ntrans c b a h2 h1) (fun a b=>by
  cases h:lt b a
  ·rfl
  ·cases h':lt a b
   ·rfl
   ·have:=hO.trans _ _ _ h h'
    rw[hO.irrefl] at this;cases this) d
 intro i j hij hj
 have hj':j<(d.mergeSort (fun x y=>!lt y x)).length:=by simpa using hj
 have:=List.pairwise_iff_getElem.1 hp i j (by omega) hj' hij
 rw[getElem!_pos _ j hj,getElem!_pos _ i (by omega)]
 simpa using this
end
def CellsAt (w:World) (b o:Nat) (L:List (Int×Int)):Prop:=∀i x,L[i]? = some x->w.cell? ⟨b,o+i*2,none⟩=some (.int .i64 x.1)/\w.cell? ⟨b,o+i*2+1,none⟩=some (.int .i64 x.2)
theorem CellsAt.kp {w w':World} {b o:Nat} {L:List (Int×Int)} {S:Nat->Prop} (h:CellsAt w b o L) (g:Kp w w' S) (hb:¬S b):CellsAt w' b o L:=fun i x hx=>by
 obtain⟨h1,h2⟩:=h i x hx
 have e:=g.block b (cell_lt h1) hb
 have ec:∀j,w'.cell? ⟨b,j,none⟩=w.cell? ⟨b,j,none⟩:=fun j=>by simp only[World.cell?];rw[e]
 rw[ec,ec];exact⟨h1,h2⟩
section
variable {α:Type} [Inhabited α] {enc:α->List Value} {k:Nat}
def EncAt (enc:α->List Value) (k:Nat) (w:World) (b o:Nat) (A:List α):Prop:=∀(i:Nat) (x:α),A[i]? = some x->∀(t:Nat) (v:Value),(enc x)[t]? = some v->w.cell? ⟨b,o+i*k+t,none⟩=some v
theorem holds_enc {w:World} {b o:Nat} {d:Array α} (hk:∀x,(enc x).length=k) (h:HoldsK enc k w b o d):EncAt enc k w b o d.toList:=fun i x hx t v hv=>by
 obtain⟨hi,hx⟩:=List.getElem?_eq_some_iff.1 hx
 obtain⟨ht,hv⟩:=List.getElem?_eq_some_iff.1 hv
 have hi':i<d.size:=by simpa using hi
 have:=(h.cell (i:=i) (c:=t) hi' (by rw[<- hk x];exact ht)).1
 have ex:d[i]! = x:=by rw[getElem!_pos d _ hi',<- hx];simp
 rw[ex,getElem!_pos (enc x) _ ht,hv] at this
 exact this
theorem own_holds {w:World} {base:Nat} {T:TypeId} {v:Value} {n:Nat} {d:Array α} (h:w.ownsRow base T k v n (flatK enc k d).toList):v=.slice none 0 0∨∃g cap,v=.slice (some ⟨g,0,none⟩) n cap/\base<=g/\g<w.heap.size/\HoldsK enc k w g 0 d/\n<=cap/\cap<=maxLen:=by
 obtain⟨hl,h⟩:=h
 rcases h with ⟨h1,_⟩|⟨g,cap,cur,hv,hb,hc,h1,h2,h3,h4⟩
 ·exact .inl h1
 ·refine .inr ⟨g,cap,hv,hb,?_,fun j hj=>?_,h1,h2⟩
  ·rcases Nat.lt_or_ge g w.heap.size with c|c
   ·exact c
   ·rw[Array.getElem?_eq_none c] at hc;cases hc
  ·have e:(flatK enc k d).toList[j]? = cur.toList[j]?:=by
    rw[<- h4,List.getElem?_take]
    have:j<n*k:=by rw[<- hl];simpa using hj
    rw[if_pos this]
   rw[Array.getElem?_toList,Array.getElem?_toList] at e
   constructor
   ·simp only[World.cell?,hc,Nat.zero_add]
    rw[<- e,getElem!_pos (flatK enc k d) j hj,Array.getElem?_eq_getElem hj]
    rfl
   ·simp[World.frozen?,hc]
end
def encA (x:Int×Int):List Value:=[.int .i64 x.1,.int .i64 x.2]
theorem encA_len (x:Int×Int):(encA x).length=2:=rfl
theorem encA_one (x:Int×Int):∀v∈encA x,v.oneCell'=true:=by
 intro v hv
 simp only[encA,List.mem_cons,List.not_mem_nil,or_false] at hv
 rcases hv with rfl|rfl <;> rfl
theorem EncAt.cells {w:World} {b o:Nat} {A:List (Int×Int)} (h:EncAt encA 2 w b o A):CellsAt w b o A:=fun i x hx=>⟨h i x hx 0 _ rfl,h i x hx 1 _ rfl⟩
def cfA (x y:Int×Int):Int:=ordC x.1 x.2 y.1 y.2
theorem cfA_lt (x y:Int×Int):ltOf cfA x y=true↔x.2<y.2∨(x.2=y.2/\x.1<y.1):=by
 unfold ltOf cfA ordC cmpI
 simp only[decide_eq_true_eq]
 repeat' split
 all_goals omega
theorem cfA_nlt (x y:Int×Int):ltOf cfA x y=false↔y.2<x.2∨(x.2=y.2/\y.1<=x.1):=by
 rw[<- Bool.not_eq_true,cfA_lt];omega
theorem swoA:SWO (ltOf cfA):=⟨fun x=>by rw[cfA_nlt];omega,fun x y z h1 h2=>by rw[cfA_lt] at *;omega,fun x y z h1 h2=>by rw[cfA_nlt] at *;omega⟩
theorem cfA_same (x y:Int×Int) (h1:ltOf cfA x y=false) (h2:ltOf cfA y x=false):x=y:=by
 rw[cfA_nlt] at h1 h2
 exact Prod.ext (by omega) (by omega)
theorem infoAddr:∃i0,Tryz.prog.info? 32=some i0/\i0.zero=some (.agg #[.int .i64 0,.int .i64 0])/\i0.size=2/\i0.bytes=16:=by
 have h:(Tryz.prog.info? 32).map (fun i=>(i.zero,i.size,i.bytes))=some (some (.agg #[.int .i64 0,.int .i64 0]),2,16):=by kernel_rfl
 cases e:Tryz.prog.info? 32 with
 | none=>rw[e] at h;cases h
 | some i=>
  rw[e] at h
  simp only[Option.map_some,Option.some.injEq,Prod.mk.injEq] at h
  exact⟨i,rfl,h⟩
def Own1 {α:Type} [Inhabited α] (enc:α->List Value) (k:Nat) (B:Nat) (w:World) (v:Value) (A:List α):Prop:=
 (A=[]/\v=.slice none 0 0)∨∃g cap,v=.slice (some ⟨g,0,none⟩) A.length cap/\B<=g/\g<w.heap.size/\HoldsK enc k w g 0 A.toArray/\A.length<=cap/\cap<=maxLen
theorem sortWorldK_kp {α:Type} [Inhabited α] (enc:α->List Value) (k:Nat) (w:World) (blk off m:Nat) (d:Array α) (os:Array Obj):Kp w (sortWorldK enc k w blk off m d os) (fun i=>i=blk):=by
 unfold sortWorldK
 refine⟨rfl,rfl,rfl,?_,fun i hi hn=>?_⟩
 ·rw[size_grow,size_putRowK];exact Nat.le_add_right _ _
 ·have h1:i<(putRowK enc k (Sort.ahead w m) blk off d).heap.size:=by rw[size_putRowK];exact hi
  rw[heap_grow_old _ _ h1]
  show (mapBlock _ _ _).heap[i]? = _
  unfold mapBlock
  simp only[Array.getElem?_modify]
  rw[if_neg (fun e=>hn e.symm)]
  rfl
theorem sort_cells (A:List (Int×Int)) (v:Value) (B:Nat) (w:World) (hA:A.length<=1048576) (hv:Own1 encA 2 B w v A) :
  Calls Tryz.prog 153 #[v,.func (.func 154) #[] #[]] w fun e w'=>e=.returned (.tuple #[])/\Own1 encA 2 B w' v (A.mergeSort fun x y=>!(ltOf cfA) y x)/\Kp w w' (fun i=>B<=i):=by
 rcases hv with ⟨rfl,rfl⟩|⟨g,cap,rfl,h2,h3,h4,h5,h6⟩
 ·refine(AnyF.slices_SortFunc_none Tryz.laySortFuncAddr none 0 _ w).mono ?_
  rintro e w' ⟨rfl,rfl⟩
  exact⟨rfl,.inl ⟨by simp,rfl⟩,Kp.refl _ _⟩
 ·have hcmp:CmpLays Tryz.prog 154 #[] encA 2 cfA g 0 A.toArray.size w:=fun m os dk _ x y=>pOrder_x x.1 x.2 y.1 y.2 _
  have hs:=AnyQ.slices_SortFunc_total Tryz.laySortFuncAddr 2 Tryz.isAgg32 Tryz.sizeOf32 encA encA_len encA_one cfA swoA 154 #[] g 0 cap A.toArray w (enters_of Tryz.func154 (by kernel_rfl) rfl) hcmp h4 h3 (by simp;omega) cfA_same
  refine hs.mono ?_
  rintro e w' ⟨rfl,n,os,rfl⟩
  have hk:=sortWorldK_kp encA 2 w g 0 n (A.toArray.toList.mergeSort fun x y=>!(ltOf cfA) y x).toArray os
  refine⟨rfl,.inr ⟨g,cap,?_,h2,?_,?_,?_,h6⟩,hk.mono (fun i _ e=>by subst e;exact h2)⟩
  ·rw[List.length_mergeSort]
  ·exact Nat.lt_of_lt_of_le h3 hk.size
  ·exact holdsK_sortWorldK_c encA 2 w g 0 A.toArray _ n os h4 h3 (by simp[List.length_mergeSort])
  ·rw[List.length_mergeSort];exact h5
theorem flat_cons (a:Int×Int) (l:List (Int×Int)):(flatK encA 2 (a::l).toArray).toList=encA a++(flatK encA 2 l.toArray).toList:=by
 apply List.ext_getElem
 ·simp[encA];omega
 ·intro t h1 h2
  have ht:t<(l.length+1)*2:=by simpa using h1
  have e1:=get_flatK encA 2 (a::l).toArray t (by simpa using ht)
  rw[getElem!_pos _ t (by simpa using h1)] at e1
  rw[Array.getElem_toList,e1]
  by_cases h:t<2
  ·rw[List.getElem_append_left (by simpa [encA] using h)]
   have:t/2=0:=by omega
   rw[this,Nat.mod_eq_of_lt h]
   simp[h,encA]
  ·rw[List.getElem_append_right (by simpa [encA] using h),Array.getElem_toList]
   have hl:t-(encA a).length<l.length*2:=by simp[encA];omega
   have e2:=get_flatK encA 2 l.toArray (t-(encA a).length) (by simpa using hl)
   rw[getElem!_pos _ _ (by simpa using hl)] at e2
   rw[e2]
   have e3:(t-(encA a).length)/2=t/2-1:=by simp[encA];omega
   have e4:(t-(encA a).length)%2=t%2:=by simp[encA];omega
   rw[e3,e4]
   obtain⟨q,hq⟩:∃q,t/2=q+1:=⟨t/2-1,by omega⟩
   rw[hq]
   simp
theorem flat_snoc (l:List (Int×Int)) (x:Int×Int):(flatK encA 2 (l++[x]).toArray).toList=(flatK encA 2 l.toArray).toList++encA x:=by
 induction l with
 | nil=>rw[List.nil_append,flat_cons];simp[flatK]
 | cons a l ih=>rw[List.cons_append,flat_cons,flat_cons,ih,List.append_assoc]
theorem row_kp {w w':World} {S:Nat->Prop} {base size n:Nat} {e:TypeId} {v:Value} {xs:List Value} (h:w.ownsRow base e size v n xs) (g:Kp w w' S) (hS:∀i,base<=i->¬S i):w'.ownsRow base e size v n xs:=by
 obtain⟨h0,h⟩:=h
 refine⟨h0,?_⟩
 rcases h with h|⟨gb,cap,cur,h1,h2,h3,h4⟩
 ·exact .inl h
 ·refine .inr ⟨gb,cap,cur,h1,h2,?_,h4⟩
  have hl:gb<w.heap.size:=(Array.getElem?_eq_some_iff.1 h3).1
  rw[g.block gb hl (hS gb h2)];exact h3
def Strict (L:List (Int×Int)):Prop:=L.Pairwise (fun x y=>ltOf cfA x y=true)
def CellsFrom (B:Nat) (w:World) (v:Value) (L:List (Int×Int)):Prop:=∃a c,v=.slice a L.length c/\((a=none/\L=[])∨∃b,a=some ⟨b,0,none⟩/\B<=b/\CellsAt w b 0 L)
theorem own1_row {w:World} {B n:Nat} {v:Value} {A:List (Int×Int)} (hn:A.length=n) (h:w.ownsRow B 32 2 v n (flatK encA 2 A.toArray).toList):Own1 encA 2 B w v A:=by
 subst hn
 have h0:=h
 obtain⟨_,h1⟩:=h0
 rcases h1 with ⟨e1,e2⟩|_
 ·exact .inl ⟨List.length_eq_zero_iff.1 e2,e1⟩
 ·rcases own_holds h with e|⟨g,cap,h1,h2,h3,h4,h5,h6⟩
  ·obtain⟨_,h2⟩:=h
   rcases h2 with ⟨_,e2⟩|⟨g,cap,cur,e3,_⟩
   ·exact .inl ⟨List.length_eq_zero_iff.1 e2,e⟩
   ·rw[e] at e3;cases e3
  ·exact .inr ⟨g,cap,h1,h2,h3,h4,h5,h6⟩
theorem own1_from {w:World} {B:Nat} {v:Value} {A:List (Int×Int)} (h:Own1 encA 2 B w v A):CellsFrom B w v A:=by
 rcases h with ⟨rfl,rfl⟩|⟨g,cap,rfl,h2,h3,h4,h5,h6⟩
 ·exact⟨none,0,rfl,.inl ⟨rfl,rfl⟩⟩
 ·exact⟨_,_,rfl,.inr ⟨g,rfl,h2,(holds_enc encA_len h4).cells⟩⟩
theorem merge_strict {A:List (Int×Int)} (h:A.Nodup):Strict (A.mergeSort fun x y=>!(ltOf cfA) y x):=by
 have hnd:(A.mergeSort fun x y=>!(ltOf cfA) y x).Nodup:=(List.mergeSort_perm A _).nodup_iff.2 h
 refine List.pairwise_iff_getElem.2 (fun i j hi hj hij=>?_)
 have h1:=merge_sorted swoA A i j hij (by simpa using hj)
 rw[getElem!_pos _ j (by simpa using hj),getElem!_pos _ i (by simpa using hi)] at h1
 simp only[List.getElem_toArray] at h1
 cases h2:ltOf cfA (A.mergeSort fun x y=>!(ltOf cfA) y x)[i] (A.mergeSort fun x y=>!(ltOf cfA) y x)[j] with
 | true=>rfl
 | false=>
  have e:=cfA_same _ _ h2 h1
  have:=List.pairwise_iff_getElem.1 hnd i j hi hj hij
  exact absurd e this
theorem own_block {w:World} {base size n:Nat} {e:TypeId} {v:Value} {xs:List Value} (h:w.ownsRow base e size v n xs) (i:Nat) (hi:v.ownBlock=some i):base<=i:=by
 obtain⟨_,h⟩:=h
 rcases h with ⟨rfl,_⟩|⟨g,cap,cur,rfl,h2,_⟩
 ·cases hi
 ·simp[Value.ownBlock] at hi
  omega
theorem nodup_snoc {A:List (Int×Int)} {x:Int×Int} (h:A.Nodup) (hx:x∉A):(A++[x]).Nodup:=by
 rw[List.nodup_append]
 refine⟨h,by simp,fun a ha b hb e=>?_⟩
 have:b=x:=by simpa using hb
 subst this
 subst e
 exact hx ha
end Go.Proofs.YtecjfnkakodebaaGreatDoor
