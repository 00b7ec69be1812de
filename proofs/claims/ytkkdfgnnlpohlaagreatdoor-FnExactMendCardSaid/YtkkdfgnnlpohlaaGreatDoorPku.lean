import Derived.Test.YtkkdfgnnlpohlaaGreatDoorPko
import Derived.Test.YtkkdfgnnlpohlaaGreatDoorPkr
import Derived.Test.YtkkdfgnnlpohlaaGreatDoorPkp
import Derived.ProofKit
import Derived.OpenShut
import Derived.ShutString
import Derived.ChangeOld
import Derived.Below
import Derived.Deep.SlicePairs
namespace Go.Proofs.YtkkdfgnnlpohlaaGreatDoor
set_option maxRecDepth 20000
set_option linter.unusedVariables false
set_option linter.unusedSimpArgs false
set_option maxHeartbeats 4000000
open Go.RowKit Go.Proofs.Tryz
variable {W X Y w w' w0 wr : World} {A B at_ b b2 base' c cap e f g go gs hi i j k lo m n s u val z : Nat} {E G I J K L M N O u0 u1 u2 v0 v1 v2 v3 v4 v5 v6 x y : Value} {o : Oper} {Q : Exit → Act → World → Prop} {cs tmps : Array Value} {t : TypeId} {p : Addr} {l : List Nat} {bvs xs : List Value} {a : List UInt8} {first ok : Bool}
def lL(d:LN)(w:World)(e:Ending)(w':World):Prop:=∃a c vs,e= .returned (.agg #[.slice a (dP d).1.length c,.int .i64 ((dP d).2:Int)])∧eO w' w.heap.size (.slice a (dP d).1.length c) vs (dP d).1∧Below w.heap.size w w'
theorem nf{d:LN}{e:Ending}(h:∃v,e= .returned v∧zF w' w.heap.size v (dP d)∧Below w.heap.size w w'):lL d w e w':=by
 obtain⟨v,rfl,⟨G,E,rfl,z⟩,A⟩:=h;obtain⟨a,c,rfl⟩:=z.slice;exact⟨a,c,E,rfl,z,A⟩
theorem AN(w:World):Calls prog 47 #[.slice none 0 0] w fun e w'=>e= .returned (.tuple #[.slice none 0 0,.bool false])∧w'=w:=by
 go_enter func47,ntmps47;go_wp2;go_ret2;exact⟨rfl,rfl⟩
theorem B0(w:World):Calls prog 19 #[.slice none 0 0] w (lL [] w):=by
 obtain⟨z,A,E,G⟩:=sj w #[.slice none 0 0,.int .i64 0] #[.slice none 0 0,.int .i64 0] 58 58;have J:=a8 (fun(X:World) (h:Below w.heap.size w X)=>show lL [] w (.returned (.agg #[.slice none 0 0,.int .i64 0])) X from⟨none,0,[],rfl,eO.nil _ _,h⟩);go_enter func19,ntmps19;go_wp2;generalize (w.alloc (.cells #[.slice none 0 0,.int .i64 0] 58)).alloc (.cells #[.slice none 0 0,.int .i64 0] 58)=W at z A E G⊢;go_loopw [4] (fun _ wr=>wr=W) (fun _ _=>0)
 case atStart=>rfl
 case round=>
  obtain rfl:=hrel;obtain⟨M,N⟩:=A.c2;obtain⟨K,L⟩:=z.c2;have O:=fun j=>z.fz j;have I:=a8 E;clear z A E G;go_wp2_with fail;refine(AN wr).mono ?_;rintro e Q ⟨rfl,rfl⟩;go_wp2;exact OJ (v:= .agg #[.slice none 0 0,.int .i64 0]) (by simp[results,results19,go_sem,K,L]) rfl (J.out _ ((I.setCell (p:=⟨w.heap.size,0,none⟩) (OV _) _).setCell (p:=⟨w.heap.size,1,none⟩) (OV _) _))
theorem Ax(w:World):Calls prog 140 #[.slice none 0 0] w (lL [] w):=by
 obtain⟨z,A,E,G⟩:=sj w #[.slice none 0 0,.int .i64 0] #[.slice none 0 0,.int .i64 0] 58 58;have J:=a8 (fun(X:World) (h:Below w.heap.size w X)=>show lL [] w (.returned (.agg #[.slice none 0 0,.int .i64 0])) X from⟨none,0,[],rfl,eO.nil _ _,h⟩);go_enter func140,ntmps140;go_wp2
 go_step3
 go_wp2
 go_step3
 go_wp2;generalize (w.alloc (.cells #[.slice none 0 0,.int .i64 0] 58)).alloc (.cells #[.slice none 0 0,.int .i64 0] 58)=W at z A E G⊢;go_loopw [4] (fun _ wr=>wr=W) (fun _ _=>0)
 case atStart=>rfl
 case round=>
  obtain rfl:=hrel;obtain⟨M,N⟩:=A.c2;obtain⟨K,L⟩:=z.c2;have O:=fun j=>z.fz j;have I:=a8 E;clear z A E G;go_wp2;rw[Exit.noGoto_ret];exact OJ (v:= .agg #[.slice none 0 0,.int .i64 0]) (by simp[results,results140,go_sem,K,L]) rfl (J.out _ ((I.setCell (p:=⟨w.heap.size,0,none⟩) (OV _) _).setCell (p:=⟨w.heap.size,1,none⟩) (OV _) _))
theorem nX{a:OA}{d:LN}(h:fV w a c d):Calls prog 19 #[.slice a d.length c] w (lL d w):=by
 rcases h.cases with⟨rfl,rfl,rfl⟩|⟨b,z,rfl⟩
 ·exact B0 w
 ·by_cases A:40000<d.length
  ·exact(rg b z c d w A).mono fun e w' h=>nf h
  ·exact(sC b z c d w (by omega) h.room h.row h.byte).mono fun e w' h=>nf h
theorem IU{a:OA}{d:LN}(h:fV w a c d):Calls prog 140 #[.slice a d.length c] w (lL d w):=by
 rcases h.cases with⟨rfl,rfl,rfl⟩|⟨b,z,rfl⟩
 ·exact Ax w
 ·by_cases A:40000<d.length
  ·exact(qS b z c d w A).mono fun e w' h=>nf h
  ·exact(sw b z c d w (by omega) h.room h.cap h.row h.byte).mono fun e w' h=>nf h
theorem Cx(w:World)(o:Obj):Below w.heap.size w (w.alloc o):=(OX _ _).alloc (OV _) _
theorem Kv{I:Nat}{a:OA}{l:LN}(h:dR w I (.slice a l.length c) l)(E:∀x∈l,x<256):fV w a c l:=by
 have G:=LR h;rcases h.2 with⟨z,_⟩|⟨g,c',K,z,_,_,_,J,_⟩
 ·simp only[O3] at z;obtain⟨rfl,_,rfl⟩:=z;exact⟨h.row,G,by omega,E,fun _=>rfl,fun p A=>by cases A⟩
 ·simp only[O3] at z;obtain⟨rfl,_,rfl⟩:=z;exact⟨h.row,G,by unfold maxLen at J;omega,E,(fun A=>by cases A),fun p A=>by cases A;rfl⟩
theorem DV{L:Nat}{a:OA}{ns:List (LN×Int)}(h:nr w L (.slice a n cap) ns)(O:∀e∈ns,∀x∈e.1,x<256):sU w a ns:=fun Y=>by
 obtain⟨Z,R,J,hi⟩:=h;rcases J.2 with⟨_,V⟩|⟨g,Q,U,I,_⟩
 ·omega
 ·simp only[O3] at I;obtain⟨rfl,rfl,rfl⟩:=I;refine⟨g,0,rfl,fun i A=> ?_⟩;obtain⟨E,G⟩:=fJ.cells J i (by omega);obtain⟨x,z,K⟩:=hi i A;rw[OZ (by omega)] at z;simp only[OY] at z;rw[z] at E G;obtain⟨M,N,rfl⟩:=K.slice;rw[Ps];exact⟨M,N,E,G,Kv K (O _ (O6 A))⟩
theorem yO{I:Nat}{v:Value}{D:dO}(h:Hm w I v D)(U:∀e∈D.nodes,∀x∈e.1,x<256):kJ w v D:=by
 obtain⟨v1,v2,v3,v4,rfl,z,A,E,G⟩:=h;obtain⟨J,N,rfl⟩:=z.slice;obtain⟨K,O,rfl⟩:=A.slice;obtain⟨L,Q,rfl⟩:=E.slice;obtain⟨M,R,rfl⟩:=G.slice;exact⟨J,N,K,O,L,Q,M,R,rfl,DV z U,A.at,E.at,G.at⟩
section
open Go.ChangeShapes Go.WideShapes Go.ChangeAt Go.Deep
section
variable {H:Type} {enc:TypeId×Value→H} {W:World}
theorem zQ{O:Nat}{v:Value}{x:DataW H×List MemPlace}(h:DataW.trod enc prog W 0 (fun _=>true) true O 52 [v]=some x):
  ∃(a:OA) (c:Nat) (l:LN),v= .slice a l.length c∧dW W a l∧l.length≤9223372036854775807∧∀x∈l,x<256:=by
 rcases open_ints underlying52 underlying5 (by kernel_rfl) h with⟨E,_⟩|⟨x,l,c,A,E,_,hl,hm,hz,_,J,L⟩
 ·simp only[List.cons.injEq,and_true] at E;exact⟨none,0,[],E,fun h=>OH h (Nat.lt_irrefl _),by simp,(fun y I=>by cases I)⟩
 ·simp only[List.cons.injEq,and_true] at E;have aa:A.length=c:=(by simpa using hz);have K:((A.take l).map Int.toNat).length=l:=(by simp;omega);have Q:∀y∈(A.take l).map Int.toNat,y<256:=fun y I=>by
   obtain⟨z,U,rfl⟩:=Pg.1 I;have:=L z (Pi U);simp[Lit.wf,IntKind.min,IntKind.max,IntKind.signed,IntKind.bits] at this;omega
  refine⟨some x,c,(A.take l).map Int.toNat,by rw[K];exact E,fun hp=> ?_,by rw[K];unfold maxLen at hm;omega,Q⟩;obtain⟨b,V,R⟩:=x;have Z:=J 0 (by omega);have N:R=none:=(by simpa[Addr.add] using World.cell?_spot Z);subst N;refine⟨b,V,rfl,fun i hi=> ?_⟩;have G:i<A.length:=(by omega);have M:=J i G;have Y:0≤A[i]∧A[i]≤255:=by
   have:=L A[i] (O6 G);simp[Lit.wf,IntKind.min,IntKind.max,IntKind.signed,IntKind.bits] at this;exact this
  rw[ez] at M;rw[M];simp only[Po,List.getElem_take,List.getD_eq_getElem?_getD,OZ G,Option.getD_some];rw[Int.toNat_of_nonneg Y.1]
theorem wL{R:Nat}{v:Value}{x:DataW H×List MemPlace}(h:DataW.trod enc prog W 0 (fun _=>true) true R 23 [v]=some x):
  ∃(a:OA) (c:Nat) (E:List (BA×Int)),v= .slice a E.length c∧fI W a E∧E.length≤9223372036854775807∧∀e∈E,e.1.size≤9223372036854775807:=by
 rcases open_slice_pairs underlying23 underlying92 (by kernel_rfl) rfl rfl (by kernel_rfl) (by kernel_rfl) h with⟨A,_⟩|⟨x,l,c,m,fu,V0,V1,D0,D1,P0,P1,A,_,hl,Z,V,_,hx⟩
 ·simp only[List.cons.injEq,and_true] at A;exact⟨none,0,[],A,(fun h=>OH h (Nat.lt_irrefl _)),by simp,(fun e G=>by cases G)⟩
 ·simp only[List.cons.injEq,and_true] at A;have aa:m=c:=(by simpa using V);have Q:∀i,i<l→∃q:BA×Int,W.cell? (x.add (i*2))=some (.string q.1)∧W.cell? (x.add (i*2+1))=some (.int .i64 q.2)∧q.1.size≤9223372036854775807:=fun i hi=>by
   obtain⟨x0,x1,t0,t1⟩:=hx i (by omega);obtain⟨s,K,_,hs⟩:=DataW.trod_string underlying9 t0;obtain⟨z,L,_⟩:=DataW.trod_int underlying3 t1;simp only[List.cons.injEq,and_true] at K L;exact⟨(s,z),by rw[x0,K],by rw[x1,L],by unfold maxLen at hs;simp only;omega⟩
  obtain⟨q,I⟩:=choose_lt Q;have J:((List.range l).map q).length=l:=(by simp);refine⟨some x,c,(List.range l).map q,by rw[J];exact A,fun hp=> ?_,by rw[J];unfold maxLen at Z;omega,fun e G=> ?_⟩
  ·obtain⟨b,Y,U⟩:=x;have O:U=none:=(by simpa[Addr.add] using World.cell?_spot (I 0 (by omega)).1);subst O;refine⟨b,Y,rfl,fun i hi=> ?_⟩;obtain⟨M,N,_⟩:=I i (by omega);rw[ez] at M N;simp only[Po,List.getElem_range];exact⟨M,N⟩
  ·obtain⟨i,hi,rfl⟩:=Pg.1 G;exact(I i (List.mem_range.1 hi)).2.2
theorem Bj{U:Nat}{v:Value}{x:DataW H×List MemPlace}(h:DataW.trod enc prog W 0 (fun _=>true) true U 22 [v]=some x):
  ∃(a:OA) (c:Nat) (J:List (LN×Int)),v= .slice a J.length c∧ja W a J∧J.length≤9223372036854775807∧(∀e∈J,e.1.length≤9223372036854775807)∧∀e∈J,∀x∈e.1,x<256:=by
 rcases open_slice_pairs underlying22 underlying90 (by kernel_rfl) rfl rfl (by kernel_rfl) (by kernel_rfl) h with⟨G,_⟩|⟨x,l,c,m,fu,V0,V1,D0,D1,P0,P1,G,_,hl,hm,aa,_,hx⟩
 ·simp only[List.cons.injEq,and_true] at G;exact⟨none,0,[],G,(fun h=>OH h (Nat.lt_irrefl _)),by simp,(fun e A=>by cases A),(fun e A=>by cases A)⟩
 ·simp only[List.cons.injEq,and_true] at G;have ad:m=c:=(by simpa using aa);have R:∀i,i<l→∃q:LN×Int,(∃E I,W.cell? (x.add (i*2))=some (.slice E q.1.length I)∧dW W E q.1)∧W.cell? (x.add (i*2+1))=some (.int .i64 q.2)∧q.1.length≤9223372036854775807∧∀x∈q.1,x<256:=fun i hi=>by
   obtain⟨x0,x1,t0,t1⟩:=hx i (by omega);obtain⟨E,I,bl,g0,hr,Y,Z⟩:=zQ t0;obtain⟨z,M,_⟩:=DataW.trod_int underlying3 t1;simp only[List.cons.injEq,and_true] at M;exact⟨(bl,z),⟨E,I,by rw[x0,g0],hr⟩,by rw[x1,M],Y,Z⟩
  obtain⟨q,K⟩:=choose_lt R;have L:((List.range l).map q).length=l:=(by simp);refine⟨some x,c,(List.range l).map q,by rw[L];exact G,fun hp=> ?_,by rw[L];unfold maxLen at hm;omega,fun e A=> ?_,fun e A=> ?_⟩
  ·obtain⟨b,ac,V⟩:=x;obtain⟨⟨_,_,ab,_⟩,_⟩:=K 0 (by omega);have Q:V=none:=(by simpa[Addr.add] using World.cell?_spot ab);subst Q;refine⟨b,ac,rfl,fun i hi=> ?_⟩;obtain⟨⟨E,I,N,kr⟩,O,_⟩:=K i (by omega);rw[ez] at N O;simp only[Po,List.getElem_range];exact⟨E,I,N,O,kr⟩
  ·obtain⟨i,hi,rfl⟩:=Pg.1 A;exact(K i (List.mem_range.1 hi)).2.2.1
  ·obtain⟨i,hi,rfl⟩:=Pg.1 A;exact(K i (List.mem_range.1 hi)).2.2.2
theorem JD{ac:Nat}{v:Value}{x:DataW H×List MemPlace}(h:DataW.trod enc prog W 0 (fun _=>true) true ac 24 [v]=some x):
  ∃(a:OA) (c:Nat) (E:List (Int×BA×BA×Int)),v= .slice a E.length c∧o9 W a E∧E.length≤9223372036854775807∧(∀e∈E,e.2.1.size≤9223372036854775807∧e.2.2.1.size≤9223372036854775807)∧∀o∈E,(Lit.int .i64 o.2.2.2).wf=true:=by
 have ce:prog.cellsOf 95=4:=(by kernel_rfl);have Q:prog.cellsOf 3=1:=(by kernel_rfl);have R:prog.cellsOf 9=1:=(by kernel_rfl);rcases open_slice underlying24 h with⟨A,_⟩|⟨x,l,c,m,fu,D,Pl,A,_,hl,hm,ag,_,hx⟩
 ·simp only[List.cons.injEq,and_true] at A;exact⟨none,0,[],A,(fun h=>OH h (Nat.lt_irrefl _)),by simp,(fun e z=>by cases z),(fun e z=>by cases z)⟩
 ·simp only[List.cons.injEq,and_true] at A;have al:m=c:=(by simpa using ag);have ab:∀i,i<l→∃q:Int×BA×BA×Int,W.cell? (x.add (i*4))=some (.int .i64 q.1)∧W.cell? (x.add (i*4+1))=some (.string q.2.1)∧W.cell? (x.add (i*4+2))=some (.string q.2.2.1)∧W.cell? (x.add (i*4+3))=some (.int .i64 q.2.2.2)∧q.2.1.size≤9223372036854775807∧q.2.2.1.size≤9223372036854775807∧(Lit.int .i64 q.2.2.2).wf=true:=fun i hi=>by
   obtain⟨af,h1,h2⟩:=hx i (by omega);rw[ce] at h1;obtain⟨_,J,I⟩:=World.cells?_some h1;obtain⟨xs,k,hk,am,_,aj,O⟩:=DataW.trod_struct underlying95 h2
   match af,J with
   |[v0,v1,v2,v3],_=>
    have U:=I 0 (by omega);have V:=I 1 (by omega);have Y:=I 2 (by omega);have Z:=I 3 (by omega);rw[add_add] at U V Y Z;have ad:xs.length=4:=aj
    match xs,ad with
    |[y0,y1,y2,y3],_=>
     have K:(DataW.trod enc prog W 0 (fun _=>true) true k 3 (([v0,v1,v2,v3].drop 0).take (prog.cellsOf 3))=some y0):=O 0 _ rfl;rw[Q] at K;have K:DataW.trod enc prog W 0 (fun _=>true) true k 3 [v0]=some y0:=K;have L:(DataW.trod enc prog W 0 (fun _=>true) true k 9 (([v0,v1,v2,v3].drop 1).take (prog.cellsOf 9))=some y1):=O 1 _ rfl;rw[R] at L;have L:DataW.trod enc prog W 0 (fun _=>true) true k 9 [v1]=some y1:=L;have M:(DataW.trod enc prog W 0 (fun _=>true) true k 9 (([v0,v1,v2,v3].drop 2).take (prog.cellsOf 9))=some y2):=O 2 _ rfl;rw[R] at M;have M:DataW.trod enc prog W 0 (fun _=>true) true k 9 [v2]=some y2:=M;have N:(DataW.trod enc prog W 0 (fun _=>true) true k 3 (([v0,v1,v2,v3].drop 3).take (prog.cellsOf 3))=some y3):=O 3 _ rfl;rw[Q] at N;have N:DataW.trod enc prog W 0 (fun _=>true) true k 3 [v3]=some y3:=N;obtain⟨z0,r0,_⟩:=DataW.trod_int underlying3 K;obtain⟨s1,r1,_,ah⟩:=DataW.trod_string underlying9 L;obtain⟨s2,r2,_,ai⟩:=DataW.trod_string underlying9 M;obtain⟨z3,r3,_,w3⟩:=DataW.trod_int underlying3 N;simp only[List.cons.injEq,and_true] at r0 r1 r2 r3;subst r0 r1 r2 r3;exact⟨(z0,s1,s2,z3),by simpa using U,by simpa using V,by simpa using Y,by simpa using Z,by unfold maxLen at ah;simp only;omega,by unfold maxLen at ai;simp only;omega,w3⟩
  obtain⟨q,G⟩:=choose_lt ab;have J:((List.range l).map q).length=l:=(by simp);refine⟨some x,c,(List.range l).map q,by rw[J];exact A,fun hp=> ?_,by rw[J];unfold maxLen at hm;omega,fun e z=> ?_,fun e z=> ?_⟩
  ·obtain⟨b,ak,ae⟩:=x;have aa:ae=none:=(by simpa[Addr.add] using World.cell?_spot (G 0 (by omega)).1);subst aa;refine⟨b,ak,rfl,fun i hi=> ?_⟩;obtain⟨k0,k1,k2,k3,_⟩:=G i (by omega);rw[ez] at k0 k1 k2 k3;simp only[Po,List.getElem_range];exact⟨k0,k1,k2,k3⟩
  ·obtain⟨i,hi,rfl⟩:=Pg.1 z;exact⟨(G i (List.mem_range.1 hi)).2.2.2.2.1,(G i (List.mem_range.1 hi)).2.2.2.2.2.1⟩
  ·obtain⟨i,hi,rfl⟩:=Pg.1 z;exact(G i (List.mem_range.1 hi)).2.2.2.2.2.2
theorem Db{N:Nat}{v:Value}{d:DataW H}{ps:List MemPlace}(O:Value.okWide prog W .any N 26 v)(h:DataW.Trod enc prog W 0 (fun _=>true) true 26 v d ps):∃D,nA W v D∧∀e∈D.nodes,∀x∈e.1,x<256:=by
 obtain⟨cs,rfl,L⟩:=okWide_struct underlying26 O;obtain⟨aa,hf⟩:=h;obtain⟨xs,k,hk,ac,ab,Y,z⟩:=DataW.trod_struct underlying26 hf;have ce:prog.cellsOf 26=5:=(by kernel_rfl);have c3:prog.cellsOf 3=1:=(by kernel_rfl);have cn:prog.cellsOf 22=1:=(by kernel_rfl);have K:prog.cellsOf 23=1:=(by kernel_rfl);have co:prog.cellsOf 24=1:=(by kernel_rfl);rw[ce] at L;obtain⟨l⟩:=cs;have V:l.length=5:=by simpa using L
 match l,V with
 |[v0,v1,v2,v3,v4],_=>
  have Q:xs.length=5:=Y
  match xs,Q with
  |[y0,y1,y2,y3,y4],_=>
   have A:(DataW.trod enc prog W 0 (fun _=>true) true k 22 (([v0,v1,v2,v3,v4].drop 0).take (prog.cellsOf 22))=some y0):=z 0 _ rfl;rw[cn] at A;have A:DataW.trod enc prog W 0 (fun _=>true) true k 22 [v0]=some y0:=A;have E:(DataW.trod enc prog W 0 (fun _=>true) true k 23 (([v0,v1,v2,v3,v4].drop 1).take (prog.cellsOf 23))=some y1):=z 1 _ rfl;rw[K] at E;have E:DataW.trod enc prog W 0 (fun _=>true) true k 23 [v1]=some y1:=E;have G:(DataW.trod enc prog W 0 (fun _=>true) true k 23 (([v0,v1,v2,v3,v4].drop 2).take (prog.cellsOf 23))=some y2):=z 2 _ rfl;rw[K] at G;have G:DataW.trod enc prog W 0 (fun _=>true) true k 23 [v2]=some y2:=G;have I:(DataW.trod enc prog W 0 (fun _=>true) true k 24 (([v0,v1,v2,v3,v4].drop 3).take (prog.cellsOf 24))=some y3):=z 3 _ rfl;rw[co] at I;have I:DataW.trod enc prog W 0 (fun _=>true) true k 24 [v3]=some y3:=I;have J:(DataW.trod enc prog W 0 (fun _=>true) true k 3 (([v0,v1,v2,v3,v4].drop 4).take (prog.cellsOf 3))=some y4):=z 4 _ rfl;rw[c3] at J;have J:DataW.trod enc prog W 0 (fun _=>true) true k 3 [v4]=some y4:=J;obtain⟨Z,c1,ns,rfl,r1,n1,h1,U⟩:=Bj A;obtain⟨a2,c2,es,rfl,r2,n2,h2⟩:=wL E;obtain⟨a3,R,ks,rfl,r3,n3,h3⟩:=wL G;obtain⟨a4,c4,os,rfl,r4,n4,h4,h5⟩:=JD I;obtain⟨M,r5,_⟩:=DataW.trod_int underlying3 J;obtain rfl:v4= .int .i64 M:=(by injection r5);exact⟨⟨ns,es,ks,os,M⟩,⟨⟨Z,c1,a2,c2,a3,R,a4,c4,rfl,r1,r2,r3,r4⟩,n1,n2,n3,n4,h1,h2,h3,h4,h5⟩,U⟩
end
end
end Go.Proofs.YtkkdfgnnlpohlaaGreatDoor
