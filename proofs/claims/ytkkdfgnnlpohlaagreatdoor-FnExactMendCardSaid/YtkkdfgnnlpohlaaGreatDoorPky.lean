import Derived.Test.YtkkdfgnnlpohlaaGreatDoorPkt
import Derived.Test.YtkkdfgnnlpohlaaGreatDoorPku
import Derived.Test.YtkkdfgnnlpohlaaGreatDoorPkv
import Derived.Deep.DeepCutAuto
import Derived.BigRegion
namespace Go.Proofs.YtkkdfgnnlpohlaaGreatDoor
set_option maxRecDepth 20000
set_option linter.unusedVariables false
set_option linter.unusedSimpArgs false
set_option maxHeartbeats 4000000
open Go.RowKit Go.Proofs.Tryz
variable {W X Y w w' w0 wr : World} {A B at_ b b2 base' c cap e f g go gs hi i j k lo m n s u val z : Nat} {E G I J K L M N O u0 u1 u2 v0 v1 v2 v3 v4 v5 v6 x y : Value} {o : Oper} {Q : Exit → Act → World → Prop} {cs tmps : Array Value} {t : TypeId} {p : Addr} {l : List Nat} {bvs xs : List Value} {a : List UInt8} {first ok : Bool}
theorem yU{d:LN}(i:Nat)(hi:i<(dP d).1.length):(dP d).1[i].length≤40000:=by
 have h:=j2 d;have A:∀(z:List (LN)) (i:Nat) (hi:i<z.length),z[i].length≤kB z:=by
  intro z
  induction z with
  |nil=>intro i hi;cases hi
  |cons x r ih=>
   intro i hi;cases i with
   |zero=>simp[kB]
   |succ i=>
    have:=ih i (by simpa using hi);simp only[PR,kB];omega
 have:=A _ i hi;omega
theorem fP{α:Type}(l:List α)(j:Nat)(h:j<l.length):l.drop j=l[j]::l.drop (j+1):=Pv h
theorem Fx{z:List (LN)}{c':Nat}(h:j<z.length)(e:eW first (gK z[j]) c=some c'):sr first (z.drop j) c=sr false (z.drop (j+1)) c':=by
 rw[fP z j h,sr,e]
theorem KZ{z:List (LN)}(h:j<z.length)(e:eW first (gK z[j]) c=none):sr first (z.drop j) c=none:=by
 rw[fP z j h,sr,e]
theorem Lj{α:Type}{l:List α}(h:l.length=2):∃x y,l=[x,y]:=by
 match l,h with
 |[x,y],_=>exact⟨x,y,rfl⟩
def ED(d:LN)(w:World)(e:Ending)(w':World):Prop:=(∃(c:Nat) (ok:Bool),e= .returned (.tuple #[.int .u32 (c:Int),.bool ok])∧c≤gH∧f5 (dP d).1=if ok=true then some c else none)∧Below w.heap.size w w'
theorem yB{a:OA}{d:LN}(h:fV w a c d):Calls prog 73 #[.slice a d.length c] w (ED d w):=by
 have HT:=a8 (fun(X:World) (U:Below w.heap.size w X)=>h.below U);have HU:=a8 (nX h);clear h;have aM:∀(a:OA) (n c:Nat) (z:Int) (w:World),(Instr.field 58 (.agg #[.slice a n c,.int .i64 z]) 0).run prog w= .ok (.slice a n c) w:=fun a n c z w=>(by kernel_rfl);go_enter func73,ntmps73;go_wp2_with fail;refine HU.mono ?_;rintro e w1 ⟨a1,c1,vs,rfl,ho,av⟩;have HL:=a8 (fun i hi=>yU (d:=d) i hi);have aD:=a8 av;have au:=a8 (lp.rows ⟨vs,ho⟩);have hn:(dP d).1.length≤40000:=(by have:=j2 d;omega);have aj:=a8 (fun(X:World) (U:Below w.heap.size w X)=>nX (HT.out X U));unfold lL at aj;generalize az:(dP d).1=J at aj HL au hn⊢;have L:=a8 az;clear az ho av HU HT;go_wp2;go_loopw [4,5,6,7,8,9,14] (fun s4 _ _ _ _ _ i wr=>∃j E:Nat,j≤J.length∧i= .int .i64 j∧s4=uI E∧E≤gH∧sr (decide (j=0)) (J.drop j) E=sr true J 0∧Below w.heap.size w wr∧Below w1.heap.size w1 wr) (fun _ _ _ _ _ _ i _=>J.length-(intOf i).toNat)
 case atStart=>exact⟨0,0,O4 _,rfl,rfl,O4 _,rfl,aD,OX _ _⟩
 case round=>
  obtain⟨j,E,hj,rfl,rfl,al,am,ad,ab⟩:=hrel;have ag:=a8 ad;have ae:=a8 ab;have G:=a8 am;by_cases Z:j<J.length
  ·have aN:(j:Int)<(J.length:Int):=(by omega);obtain⟨b0,o0,e0,aw⟩:=(au.below ab) (by omega)
   subst e0;obtain⟨ai,ci,k0,ar⟩:=aw j Z;have aG:=HL.out j Z;have WD:=a8 (nQ ai ci J[j] wr (by omega) ar);have ah:=a8 (fun first c'=>Fx (first:=first) (c:=E) (c':=c') Z);have N:=a8 (fun first=>KZ (first:=first) (c:=E) Z);generalize J[j]=r at k0 WD ah N aG;clear aw ar am ad ab;go_wp2_with fail;refine WD.mono ?_;rintro e w2 ⟨v2,ws,rfl,ay,ap,ak⟩;have M:=a8 (show ws.map (·.data.toList)=gK r from ap);have O:=bTr ag ak;have aq:=bTr ae ak;have ac:=ay.at;have aE:=a8 (show∀y∈ws,y.size≤40000 from fun y hy=>by
    have h1:=iW (b:=32) (t:=(fw r).data.toList) (w:=y.data.toList) (by rw[←ap];exact List.mem_map_of_mem hy);have h2:(fw r).data.toList.length=r.length:=i7 r;have h3:y.data.toList.length=y.size:=rfl;omega)
   clear WD ap ak ay k0 ag ae;have Q:=a8 (show¬J=[] from fun e=>by rw[e] at Z;cases Z);by_cases ax:j=0
   ·subst ax;by_cases R:ws.length=1
    ·obtain⟨x,rfl⟩:=List.length_eq_one_iff.1 R;rcases ac with⟨_,U⟩|⟨g,cap,rfl,hg,_,af,K⟩
     ·cases U
     have q0:=K 0 x rfl;clear K R;by_cases I:x.data.toList=[66]
     ·have hq:(x.toList==[66])=true:=(by rw[OC,I];rfl);have ao:(x.toList !=[66])=false:=(by rw[OC,I];rfl);have HS:=a8 (G.symm.trans (ah.out true E (by unfold eW;rw[OS rfl,←M.out];simp[I])));clear I G;go_wp2;go_roundw
      case rel=>exact⟨1,E,by omega,by go_num,rfl,al,HS.symm,O,aq⟩
      case measure=>simp[intOf];omega
     ·have hq:(x.toList==[66])=false:=(by rw[OC];simpa using I);have ao:(x.toList !=[66])=true:=(by rw[OC];simpa using I);have A:=a8 (show f5 (dP d).1=none by
       rw[L.out];unfold f5;rw[OR Q.out,←G.out];exact N.out true (by unfold eW;rw[OS rfl,←M.out];simp[I]))
      go_wp2;go_ret2;exact⟨⟨0,false,rfl,O4 _,by rw[A.out];rfl⟩,O⟩
    ·rcases ac with⟨rfl,rfl⟩|⟨g,cap,rfl,hg,_,af,K⟩
     ·have A:=a8 (show f5 (dP d).1=none by
       rw[L.out];unfold f5;rw[OR Q.out,←G.out];exact N.out true (by unfold eW;rw[OS rfl,←M.out];simp))
      go_wp2;go_ret2;exact⟨⟨0,false,rfl,O4 _,by rw[A.out];rfl⟩,O⟩
     ·have an:¬((ws.length:Nat):Int)=1:=(by omega);have aH:(((ws.length:Nat):Int) !=1)=true:=(by simpa using an);clear K;have A:=a8 (show f5 (dP d).1=none by
       rw[L.out];unfold f5;rw[OR Q.out,←G.out];exact N.out true (by
        unfold eW;rw[OS rfl,←M.out,OR];intro e;have:=OL List.length e;simp at this;exact R this))
      go_wp2;go_ret2;exact⟨⟨0,false,rfl,O4 _,by rw[A.out];rfl⟩,O⟩
   ·have aL:¬(j:Int)=0:=(by omega);have aF:decide (j=0)=false:=OM ax;rw[aF] at G;by_cases R:ws.length=2
    ·obtain⟨x,y,rfl⟩:=Lj R;rcases ac with⟨_,U⟩|⟨g,cap,rfl,hg,_,af,K⟩
     ·cases U
     have q0:=K 0 x rfl;have q1:=K 1 y rfl;clear K R;by_cases I:x.data.toList=[67]
     ·have hq:(x.toList==[67])=true:=(by rw[OC,I];rfl);have ao:(x.toList !=[67])=false:=(by rw[OC,I];rfl);have aK:y.size≤1048576:=by
       have:=aE.out y (by simp);omega
      have N5:=a8 (fS y 1 4294967295 w2 aK (by omega));have HX:=a8 I;clear I;go_wp2_with fail;refine N5.mono ?_;rintro e w3 ⟨u,ok,rfl,hN,Y⟩;have V:=bTr O Y;have aA:=bTr aq Y;clear Y N5 q0 q1;cases ok with
      |false=>
       have aa:=a8 (gt hN);clear hN;have A:=a8 (show f5 (dP d).1=none by
        rw[L.out];unfold f5;rw[OR Q.out,←G.out];exact N.out false (by unfold eW;rw[OR (by simp),←M.out];simp[HX.out,aa.out]))
       go_wp2;go_ret2;exact⟨⟨0,false,rfl,O4 _,by rw[A.out];rfl⟩,V⟩
      |true=>
       have aa:=a8 (eE hN);obtain⟨aP,aQ⟩:=ey aa.out;clear hN;have aR:(u:Int)≤4294967295:=(by omega);by_cases aO:u≤E
       ·have aB:(u:Int)≤(E:Int):=(by omega);have aI:¬E<u:=(by omega);have A:=a8 (show f5 (dP d).1=none by
         rw[L.out];unfold f5;rw[OR Q.out,←G.out];exact N.out false (by unfold eW;rw[OR (by simp),←M.out];simp[HX.out,aa.out,aI]))
        go_wp2;go_ret2;exact⟨⟨0,false,rfl,O4 _,by rw[A.out];rfl⟩,V⟩
       ·have aB:¬(u:Int)≤(E:Int):=(by omega);have aC:E<u:=(by omega);have HS:=a8 (G.symm.trans (ah.out false u (by unfold eW;rw[OR (by simp),←M.out];simp[HX.out,aa.out,aC])));clear G;go_wp2;go_roundw
        case rel=>exact⟨j+1,u,by omega,by go_num,by go_num,by omega,by rw[HS.out];rfl,V,aA⟩
        case measure=>simp[intOf];omega
     ·have hq:(x.toList==[67])=false:=(by rw[OC];simpa using I);have ao:(x.toList !=[67])=true:=(by rw[OC];simpa using I);have A:=a8 (show f5 (dP d).1=none by
       rw[L.out];unfold f5;rw[OR Q.out,←G.out];exact N.out false (by unfold eW;rw[OR (by simp),←M.out];simp[I]))
      go_wp2;go_ret2;exact⟨⟨0,false,rfl,O4 _,by rw[A.out];rfl⟩,O⟩
    ·rcases ac with⟨rfl,rfl⟩|⟨g,cap,rfl,hg,_,af,K⟩
     ·have A:=a8 (show f5 (dP d).1=none by
       rw[L.out];unfold f5;rw[OR Q.out,←G.out];exact N.out false (by unfold eW;rw[OR (by simp),←M.out];rfl))
      go_wp2;go_ret2;exact⟨⟨0,false,rfl,O4 _,by rw[A.out];rfl⟩,O⟩
     ·have an:¬((ws.length:Nat):Int)=2:=(by omega);have aH:(((ws.length:Nat):Int) !=2)=true:=(by simpa using an);clear K;have A:=a8 (show f5 (dP d).1=none by
       rw[L.out];unfold f5;rw[OR Q.out,←G.out];exact N.out false (by
        unfold eW;rw[OR (by simp),←M.out];split
        ·next a b e=>
         have:=OL List.length e;simp at this;exact OH this R
        ·rfl))
      go_wp2;go_ret2;exact⟨⟨0,false,rfl,O4 _,by rw[A.out];rfl⟩,O⟩
  ·obtain rfl:j=J.length:=(by omega);have HB:=a8 ad;clear am ad ab ag ae;rw[PO] at G;go_wp2_with fail;refine(aj.out wr HB).mono ?_;rintro e w3 ⟨a3,c3,aS,rfl,aJ,Y⟩;have V:=bTr HB Y;clear aJ Y;by_cases h0:J=[]
   ·have A:=a8 (show f5 (dP d).1=none by rw[L.out];unfold f5;rw[OS h0]);have hz:J.length=0:=(by rw[h0];rfl);rw[hz];clear h0 hz;go_wp2;go_ret2;exact⟨⟨E,false,rfl,al,by rw[A.out];rfl⟩,V⟩
   ·have A:=a8 (show f5 (dP d).1=some E by rw[L.out];unfold f5;rw[OR h0,←G.out,sr]);have hz:(0:Int)<(J.length:Int):=(by have:=List.length_pos_iff.2 h0;omega);clear h0;go_wp2;go_ret2;exact⟨⟨E,decide (0<J.length),rfl,al,by rw[A.out,OS (by simpa using hz)]⟩,V⟩
def stI(s:IX)(mv:Value):Array Value:= #[.int .i64 0,.int .i64 1,.int .u32 (s.val:Int),.int .u32 (s.next:Int),.int .u32 0,.int .i64 (s.gen:Int),.int .i64 0,mv,sN]
abbrev StI(w:World)(g:Nat)(s:IX)(mv:Value):Prop:=Blk w g (stI s mv) 48
structure dX(gs B:Nat)(w w':World):Prop where
 os:w'.os=w.os
 tape:w'.tape=w.tape
 output:w'.output=w.output
 size:w.heap.size≤w'.heap.size
 block:∀k,k<B→k≠gs→w'.heap[k]? =w.heap[k]?
theorem dX.of_below(h:Below w.heap.size w w')(z:B≤w.heap.size):dX gs B w w':=⟨h.os,h.tape,h.output,h.size,fun k A _=>h.block k (by omega)⟩
theorem dX.trans{a b c:World}(h:dX gs B a b)(k:dX gs B b c):dX gs B a c:=
 ⟨k.os.trans h.os,k.tape.trans h.tape,k.output.trans h.output,O0 h.size k.size,fun j z A=>(k.block j z A).trans (h.block j z A)⟩
theorem dX.set(h:dX gs B w w')(u:Value):dX gs B w (w'.setCell ⟨gs,j,none⟩ u):=
 ⟨h.os,h.tape,h.output,by simpa using h.size,fun k A z=>(OQ w' ⟨gs,j,none⟩ k u (by simpa using z)).trans (h.block k A z)⟩
def xP(gs B:Nat)(first:Bool)(wsL:List (List UInt8))(s:IX)(w:World)(e:Ending)(w':World):Prop:=
 dX gs B w w'∧((∃s' mv',dV first wsL s=some s'∧e= .returned (.bool true)∧StI w' gs s' mv'∧jc w' B mv' s'.mails)∨(dV first wsL s=none∧e= .returned (.bool false)))
theorem Ja{α:Type}{l:List α}(h:l.length=4):∃x y z u,l=[x,y,z,u]:=by
 match l,h with
 |[x,y,z,u],_=>exact⟨x,y,z,u,rfl⟩
theorem AH{K x2 x3:List UInt8}{s:IX}{v n g:Nat}{z A E:Bool}(G:ni K 1 gH v z)(I:ni x2 1 gH n A)(J:ni x3 0 99999 g E):
  kv [[86],K,x2,x3] s=if(z&&A&&E)=true then some ⟨v,n,g,s.mails⟩ else none:=by
 unfold kv;cases z with
 |false=>simp[gt G]
 |true=>
  cases A with
  |false=>simp[gt I]
  |true=>
   cases E with
   |false=>simp[gt J]
   |true=>simp[eE G,eE I,eE J]
theorem yD(gs B:Nat)(al:Nat)(v:Value)(ws:List BA)(s:IX)(O:Value)(w:World)(L:StI w gs s O)(N:jc w B O s.mails)(av:gs<B)(hB:B≤w.heap.size)(G:fB w al v ws)(ab:∀y∈ws,y.size≤40000):
  Calls prog 70 #[pP gs,.bool true,v] w (xP gs B true (ws.map (·.data.toList)) s w):=by
 have U:=a8 (show dX gs B w w from dX.of_below (OX _ _) hB);have HS:=a8 L;have HM:=a8 N;by_cases hl:ws.length=4
 ·obtain⟨A,I,x2,x3,rfl⟩:=Ja hl;rcases G.at with⟨_,hb⟩|⟨g,cap,rfl,hg,_,am,z⟩
  ·cases hb
  by_cases E:A.data.toList=[86]
  ·have hq:(A.toList==[86])=true:=(by rw[OC,E];rfl);have ap:(A.toList !=[86])=false:=(by rw[OC,E];rfl);have q0:=z 0 A rfl;have q1:=z 1 I rfl;have q2:=z 2 x2 rfl;have Q:=z 3 x3 rfl;have A1:=a8 (fun(X:World)=>fS I 1 4294967295 X (by have:=ab I (by simp);omega) (by omega));have A2:=a8 (fun(X:World)=>fS x2 1 4294967295 X (by have:=ab x2 (by simp);omega) (by omega));have A3:=a8 (fun(X:World)=>fS x3 0 99999 X (by have:=ab x3 (by simp);omega) (by omega));have HX:=a8 E;have HW:=a8 G;clear z E L N G;go_enter func70,ntmps70;go_wp2_with fail;refine(A1.out w).mono ?_;rintro e w1 ⟨n1,k1,rfl,ai,K⟩;have af:=a8 ai;have ac:=a8 K;have q2:=(K.cell (p:=⟨g,0+2,none⟩) (by show g<w.heap.size;omega)).trans q2;have Q:=(K.cell (p:=⟨g,0+3,none⟩) (by show g<w.heap.size;omega)).trans Q;have au:=Pb hg K.size;clear ai K A1 q0 q1;go_wp2_with fail;refine(A2.out w1).mono ?_;rintro e w2 ⟨n2,k2,rfl,aj,aa⟩;have ag:=a8 aj;have ad:=bTr ac aa;have Q:=(aa.cell (p:=⟨g,0+3,none⟩) (by show g<w1.heap.size;omega)).trans Q;clear aj aa A2 q2 ac;go_wp2_with fail;refine(A3.out w2).mono ?_;rintro e R ⟨n3,k3,rfl,ak,ah⟩;have an:=a8 ak;have V:=bTr ad ah;clear ak ah A3 Q ad;have S3:=HS.below V (by omega);obtain⟨-,-,c2,c3,-,c5⟩:=S3.c6;have fz:=fun j=>S3.fz j;have ae:=a8 (show jc R B O s.mails from HM.below V (OV _));have ao:=a8 S3;have Y:=a8 (show dX gs B w R from dX.of_below V hB);have HT:=a8 (AH (s:=s) af ag an);have HY:=a8 (show dV true ([A,I,x2,x3].map (·.data.toList)) s=kv [[86],I.data.toList,x2.data.toList,x3.data.toList] s by unfold dV;rw[OS rfl,←HX.out];rfl);clear S3 HS HM U V HW HX;by_cases J:(k1&&k2&&k3)=true
   ·have M:=a8 (HY.trans (HT.trans (OS J)));simp only[Bool.and_eq_true] at J;obtain⟨⟨rfl,rfl⟩,rfl⟩:=J;have b1:=(ey (eE af)).2;have b2:=(ey (eE ag)).2;have aq:(n1:Int)≤4294967295:=(by omega);have ar:(n2:Int)≤4294967295:=(by omega);go_wp2;go_ret;refine⟨((Y.set _).set _).set _,.inl ⟨_,O,M,rfl,?_,?_⟩⟩
    ·have h:=((ao.set 2 (uI n1)).set 3 (uI n2)).set 5 (iI n3);show Blk _ gs (stI ⟨n1,n2,n3,s.mails⟩ O) _;simpa[stI] using h
    ·refine dM.keep ae (fun k hk=> ?_);have:=(dM.lt ae k hk).1;rw[OQ _ ⟨gs,5,none⟩ k _ (by simp;omega),OQ _ ⟨gs,3,none⟩ k _ (by simp;omega),OQ _ ⟨gs,2,none⟩ k _ (by simp;omega)]
   ·have M:=a8 (HY.trans (HT.trans (OR J)));cases k1 with
    |false=>
     go_wp2;go_ret;exact⟨((Y.set _).set _).set _,.inr ⟨M,rfl⟩⟩
    |true=>
     cases k2 with
     |false=>
      go_wp2;go_ret;exact⟨((Y.set _).set _).set _,.inr ⟨M,rfl⟩⟩
     |true=>
      cases k3 with
      |false=>
       go_wp2;go_ret;exact⟨((Y.set _).set _).set _,.inr ⟨M,rfl⟩⟩
      |true=>exact OH rfl J
  ·have hq:(A.toList==[86])=false:=(by rw[OC];simpa using E);have ap:(A.toList !=[86])=true:=(by rw[OC];simpa using E);have Z:=a8 (show dV true ([A,I,x2,x3].map (·.data.toList)) s=none by unfold dV kv;simp[E]);have q0:=z 0 A rfl;clear z E L N G;go_enter func70,ntmps70;go_wp2;go_ret;exact⟨U,.inr ⟨Z,rfl⟩⟩
 ·have Z:=a8 (show dV true (ws.map (·.data.toList)) s=none by
   unfold dV kv;rw[OS rfl];split
   ·next a b c d e=>
    have:=OL List.length e;simp at this;exact OH this hl
   ·rfl)
  have ax:(((ws.length:Nat):Int) !=4)=true:=(by simp;omega);have aw:¬((ws.length:Nat):Int)=4:=(by omega);rcases G.at with⟨rfl,rfl⟩|⟨g,cap,rfl,hg,_,am,z⟩
  ·clear L N G;go_enter func70,ntmps70;go_wp2;go_ret;exact⟨U,.inr ⟨Z,rfl⟩⟩
  ·clear L N G z;go_enter func70,ntmps70;go_wp2;go_ret;exact⟨U,.inr ⟨Z,rfl⟩⟩
theorem xq{α:Type}{l:List α}(h:l.length=3):∃x y z,l=[x,y,z]:=by
 match l,h with
 |[x,y,z],_=>exact⟨x,y,z,rfl⟩
theorem AG{I x2:List UInt8}{s:IX}{u f:Nat}{z A:Bool}(E:ni I 1 gH u z)(G:ni x2 0 2147483647 f A):
  dV false [[70],I,x2] s=if(z&&A)=true then(match jB s.mails u with
   |some i=>some {s with mails:=s.mails.modify i (fun m=>{m with flags:=f})}
   |none=>none) else none:=by
 unfold dV;rw[OR (by simp)];unfold nh;rw[OS ⟨rfl,rfl⟩];unfold pg;cases z with
 |false=>simp[gt E]
 |true=>
  cases A with
  |false=>simp[gt G]
  |true=>
   simp only[eE E,eE G];rfl
theorem DK(ms:List IM)(i f:Nat):(ms.map ml0).modify i (fun x=>x.set 6 (.int .u32 (f:Int)))=(ms.modify i (fun m=>{m with flags:=f})).map ml0:=by
 apply List.ext_getElem?;intro n;rw[List.getElem?_modify,PE,PE,List.getElem?_modify];cases ms[n]? with
 |none=>rfl
 |some m=>
  simp only[Option.map_some];split<;>rfl
theorem F6(A:Nat)(a:OA)(cap:Nat)(ms:List IM)(u:Nat)(z:Int)(I:z=(u:Int))(w:World)(E:ms.length≤1048576)(G:jc w A (.slice a ms.length cap) ms):
  Calls prog 100 #[.slice a ms.length cap,.int .u32 z] w fun e w'=>e= .returned (.int .i64 (plI (jB ms u)))∧w'=w:=by
 subst I;exact rM A a cap ms u w E G
theorem Bv{ms:List IM}(h:jB ms u=some i):i<ms.length:=by
 unfold jB at h;rw[List.findIdx?_eq_some_iff_getElem] at h;exact h.1
theorem yC(gs B:Nat)(aj:Nat)(v:Value)(A E x2:BA)(s:IX)(mv:Value)(w:World)(ah:StI w gs s mv)(hm:jc w B mv s.mails)(au:gs<B)(hB:B≤w.heap.size)(hw:fB w aj v [A,E,x2])(ai:∀y∈[A,E,x2],y.size≤40000)(V:A.data.toList=[70])(ay:s.mails.length≤100):
  Calls prog 70 #[pP gs,.bool false,v] w (xP gs B false ([A,E,x2].map (·.data.toList)) s w):=by
 have HS:=a8 ah;have HM:=a8 hm;rcases hw.at with⟨_,hb⟩|⟨g,cap,rfl,hg,_,an,M⟩
 ·cases hb
 have hq:(A.toList==[70])=true:=(by rw[OC,V];rfl);have az:(A.toList !=[70])=false:=(by rw[OC,V];rfl);have q0:=M 0 A rfl;have q1:=M 1 E rfl;have q2:=M 2 x2 rfl;have A1:=a8 (fun(X:World)=>fS E 1 4294967295 X (by have:=ai E (by simp);omega) (by omega));have A2:=a8 (fun(X:World)=>fS x2 0 2147483647 X (by have:=ai x2 (by simp);omega) (by omega));have HX:=a8 V;clear M V ah hm hw;go_enter func70,ntmps70;go_wp2_with fail;refine(A1.out w).mono ?_;rintro e w1 ⟨K,k1,rfl,af,Y⟩;have ac:=a8 af;have aa:=a8 Y;have q2:=(Y.cell (p:=⟨g,0+2,none⟩) (by show g<w.heap.size;omega)).trans q2;clear af Y A1 q0 q1;go_wp2_with fail;refine(A2.out w1).mono ?_;rintro e L ⟨n2,k2,rfl,ag,ae⟩;have ad:=a8 ag;have N:=bTr aa ae;clear ag ae A2 q2 aa;have Z:=HS.below N (by omega);have G:=a8 (show jc L B mv s.mails from HM.below N (OV _));obtain⟨am,cm,rfl⟩:=G.slice;rw[OW] at*;obtain⟨-,-,-,-,-,-,-,c7⟩:=Z.c8;have z:=a8 (show dX gs B w L from dX.of_below N hB);have Q:=a8 (AG (s:=s) ac ad);have R:=a8 (show dV false ([A,E,x2].map (·.data.toList)) s=dV false [[70],E.data.toList,x2.data.toList] s by rw[←HX.out];rfl);have ak:=a8 Z;clear Z HS HM N HX;have U:=a8 (F6 B am cm s.mails (K%4294967296) ((K:Int)%4294967296) (by omega) L (by omega) G);cases k1 with
 |false=>
  have J:=a8 (R.trans (Q.trans (OR (by simp))));go_wp2_with fail;refine U.mono ?_;rintro e w3 ⟨rfl,rfl⟩;go_wp2;go_ret;exact⟨z,.inr ⟨J,rfl⟩⟩
 |true=>
  have b1:=(ey (eE ac)).2;have ao:(K:Int)≤4294967295:=(by omega);have U:=a8 (rM B am cm s.mails K L (by omega) G);go_wp2_with fail;refine U.mono ?_;rintro e w3 ⟨rfl,rfl⟩;clear U;cases k2 with
  |false=>
   have J:=a8 (R.trans (Q.trans (OR (by simp))));go_wp2;go_ret;exact⟨z,.inr ⟨J,rfl⟩⟩
  |true=>
   have b2:=(ey (eE ad)).2;have ap:(n2:Int)≤2147483647:=(by omega);have O:=a8 (R.trans (Q.trans (OS rfl)));clear Q R;cases hp:jB s.mails K with
   |none=>
    rw[hp] at O;have J:=O;have I:plI none= -1:=rfl;rw[I];clear hp I;go_wp2;go_ret;exact⟨z,.inr ⟨J,rfl⟩⟩
   |some i=>
    rw[hp] at O;have al:i<s.mails.length:=Bv hp;have I:plI (some i)=(i:Int):=rfl;rw[I];have aw:¬(i:Int)<0:=(by omega);have ax:(i:Int)<(s.mails.length:Int):=(by omega);obtain⟨gm,rfl,ar,av⟩:=dM.at0 G (by rw[OW];omega);have hc:=dM.cell G i 6 (by rw[OW];exact al) (by simp[ml0]);simp only[Po,ml0,PR,List.getElem_cons_zero] at hc;have hf:=dM.frozen G (i*11+6);have ab:=a8 (dM.store G i 6 (by omega) (uI n2));rw[DK] at ab;generalize (s.mails[i].flags:Int)=aq at hc;clear hp I;go_wp2;go_ret;refine⟨?_,.inl ⟨_,_,O,rfl,?_,ab⟩⟩
    ·exact⟨z.os,z.tape,z.output,by simpa using z.size,fun k hk hn=>(OQ w3 ⟨gm,i*11+6,none⟩ k _ (by simp;omega)).trans (z.block k hk hn)⟩
    ·have h:=ak.other (g':=gm) (j:=i*11+6) (by omega) (uI n2);exact h
theorem Li{α:Type}{l:List α}(h:l.length=6):∃a b c d e f,l=[a,b,c,d,e,f]:=by
 match l,h with
 |[a,b,c,d,e,f],_=>exact⟨a,b,c,d,e,f,rfl⟩
theorem AI{Q x2 x3 x4 x5:List UInt8}{s:IX}{u t f n J:Nat}{z A E G I:Bool}(R:s.mails.length<100)(K:ni Q 1 4294967294 u z)(L:ni x2 0 1000000000000 t A)(M:ni x3 0 2147483647 f E)(N:ni x4 0 40000 n G)(O:ni x5 0 1 J I):
  dV false [[65],Q,x2,x3,x4,x5] s=if(z&&A&&E&&G&&I)=true then(if lB s.mails u=true then some {s with next:=if s.next≤u then u+1 else s.next,mails:=s.mails++[⟨u,t,f,n,J⟩]} else none) else none:=by
 unfold dV;rw[OR (by simp)];unfold nh;rw[OR (by simp),OS ⟨rfl,rfl,R⟩];unfold iQ;rw[show gH-1=4294967294 from rfl];cases z with
 |false=>simp[gt K]
 |true=>
  cases A with
  |false=>simp[gt L]
  |true=>
   cases E with
   |false=>simp[gt M]
   |true=>
    cases G with
    |false=>simp[gt N]
    |true=>
     cases I with
     |false=>simp[gt O]
     |true=>simp only[eE K,eE L,eE M,eE N,eE O];rfl
theorem xb:(prog.info? 108).map (fun i=>(i.zero,i.size,i.bytes))=some (some (.agg #[.int .u32 0,.int .i64 0,.int .u32 0,sN,sN,.int .i64 0,.int .u32 0,.int .i64 0,.int .i64 0,.bool false,.string ⟨#[]⟩]),11,128):=by kernel_rfl
theorem ix{L:Array Oper}{K:List Oper}{E:Act}(w:World)(U:o.guard=none)(s x:Operand)
  (ho:o.op= .call {callee:= .builtin .append,args:= #[s,x],argTypes:= #[45,45]})
  (A:Nat) (v:Value) (ms:List IM) (m:IM) (I c:Nat) (hs:E.eval s=v) (hx:E.eval x=sS I 1 c) (J:jc w A v ms)
  (hc:∀j u,(ml0 m)[j]? =some u→w.cell? ⟨I,j,none⟩=some u) (aa:ms.length≤1048576) (N:A≤w.heap.size)
  (h:∀G w',jc w' A G (ms++[m])→w.grownBy w' v.ownBlock→wpList prog L Q K (E.put o.dst G) w'):wpList prog L Q (o::K) E w:=by
 obtain⟨i0,hi,V,Y,Z⟩:=info_parts xb;have O:w.ownsRow A 108 11 v ms.length (ms.map ml0).flatten:=(by have:=J.2;rw[OW] at this;exact this);refine wpList_append_own w U s x 45 ho A 108 i0 (.agg #[.int .u32 0,.int .i64 0,.int .u32 0,sN,sN,.int .i64 0,.int .u32 0,.int .i64 0,.int .i64 0,.bool false,.string ⟨#[]⟩]) 11 128 underlying45 hi V Y Z rfl (by decide) v ms.length (ms.map ml0).flatten hs O ⟨I,0,none⟩ 1 c (ml0 m) hx (by simp[ml0]) ?_ ?_ (by unfold maxLen;omega) (by omega) N ?_
 ·intro j u hj;rw[ez,Ps];exact hc j u hj
 ·intro u M;simp only[ml0,Pd,Pw,or_false] at M;rcases M with rfl|rfl|rfl|rfl|rfl|rfl|rfl|rfl|rfl|rfl|rfl<;>rfl
 ·intro G w' R hg _;refine h G w' ⟨?_,?_⟩ hg
  ·intro y z;rw[O7,Pj] at z;rcases z with z|z
   ·exact J.1 y z
   ·simp only[Pe,PD,Ph] at z;rw[z];rfl
  ·rw[OW,O1,O7,PQ];simpa using R
theorem eG{v:Value}{A:List (List Value)}(h:dM w z e k v A):∃a n c,v= .slice a n c:=by
 obtain⟨a,c,rfl⟩:=h.slice;exact⟨_,_,_,rfl⟩
theorem yw{s1:IX}{z:Value}{m:IM}{o:Obj}(R:StI W gs s1 G)(I:dX gs B w W)(O:gs<B)(V:B≤W.heap.size)(U:jc W B G s1.mails)(N:jc w' B z (s1.mails++[m]))(J:(W.alloc o).grownBy w' G.ownBlock):
  (dX gs B w (w'.setCell ⟨gs,7,none⟩ z)∧StI (w'.setCell ⟨gs,7,none⟩ z) gs {s1 with mails:=s1.mails++[m]} z∧jc (w'.setCell ⟨gs,7,none⟩ z) B z (s1.mails++[m]))∧w'.cell? ⟨gs,7,none⟩=some G∧w'.frozen? ⟨gs,7,none⟩=false:=by
 have Q:∀k,G.ownBlock=some k→B≤k:=fun k A=>(dM.lt U k A).1;have E:=nAl W o;have L:∀k,k<B→w'.heap[k]? =W.heap[k]? :=fun k A=>(J.block k (by have:=E.size;omega) (fun e=>by have:=Q k e.symm;omega)).trans (E.block k (by omega));have K:StI w' gs s1 G:=(L gs O).trans R;refine⟨⟨⟨?_,?_,?_,?_,?_⟩,?_,?_⟩,K.cell 7,K.fz 7⟩
 ·exact J.os.trans (E.os.trans I.os)
 ·exact J.tape.trans (E.tape.trans I.tape)
 ·exact J.output.trans (E.output.trans I.output)
 ·have Y:=J.size;have Z:=E.size;have h3:=I.size;simp only[World.size_setCell];omega
 ·intro k A M;rw[OQ w' ⟨gs,7,none⟩ k z (by simpa using M)];exact(L k A).trans (I.block k A M)
 ·have h:=K.set 7 z;show Blk _ gs (stI _ z) _;simpa[stI] using h
 ·refine dM.keep N (fun k A=>OQ w' ⟨gs,7,none⟩ k z ?_);have:=(dM.lt N k A).1;simp;omega
theorem GM{ms:List IM}(h:ms.length=0):lB ms u=true:=by
 rw[Pp.1 h];rfl
theorem D5{ms:List IM}{L:Nat}(h:ms.length=L+1):lB ms u=decide ((ms[L]'(by omega)).uid<u):=by
 have e:ms.getLast? =some (ms[L]'(by omega)):=by
  rw[List.getLast?_eq_getElem?];have z:ms.length-1=L:=(by omega);rw[z];exact OZ _
 unfold lB;rw[e]
theorem yE(gs B:Nat)(aQ:Nat)(v:Value)(x0 x1 x2 x3 x4 x5:BA)(s:IX)(mv:Value)(w:World)(aD:StI w gs s mv)(hm:jc w B mv s.mails)(au:gs<B)(hB:B≤w.heap.size)(hw:fB w aQ v [x0,x1,x2,x3,x4,x5])(aq:∀y∈[x0,x1,x2,x3,x4,x5],y.size≤40000)(hx:x0.data.toList=[65])(aT:s.mails.length<100):
  Calls prog 70 #[pP gs,.bool false,v] w (xP gs B false ([x0,x1,x2,x3,x4,x5].map (·.data.toList)) s w):=by
 have HS:=a8 aD;have HM:=a8 hm;obtain⟨am,E,rfl⟩:=hm.slice;rw[OW] at*;obtain⟨-,-,-,-,-,-,-,c7⟩:=aD.c8;rcases hw.at with⟨_,hb⟩|⟨g,cap,rfl,hg,_,aU,ah⟩
 ·cases hb
 have hq:(x0.toList==[65])=true:=(by rw[OC,hx];rfl);have bg:(x0.toList !=[65])=false:=(by rw[OC,hx];rfl);have aS:¬(100:Int)≤(s.mails.length:Int):=(by omega);have q0:=ah 0 x0 rfl;have q1:=ah 1 x1 rfl;have q2:=ah 2 x2 rfl;have q3:=ah 3 x3 rfl;have q4:=ah 4 x4 rfl;have q5:=ah 5 x5 rfl;have A1:=a8 (fun(X:World)=>fS x1 1 4294967294 X (by have:=aq x1 (by simp);omega) (by omega));have A2:=a8 (fun(X:World)=>fS x2 0 1000000000000 X (by have:=aq x2 (by simp);omega) (by omega));have A3:=a8 (fun(X:World)=>fS x3 0 2147483647 X (by have:=aq x3 (by simp);omega) (by omega));have A4:=a8 (fun(X:World)=>fS x4 0 40000 X (by have:=aq x4 (by simp);omega) (by omega));have A5:=a8 (fun(X:World)=>fS x5 0 1 X (by have:=aq x5 (by simp);omega) (by omega));have HX:=a8 hx;clear ah hx aD hm hw;go_enter func70,ntmps70;go_wp2_with fail;refine(A1.out w).mono ?_;rintro e w1 ⟨z,k1,rfl,aL,ai⟩;have aw:=a8 aL;have aE:=a8 ai;have q2:=(ai.cell (p:=⟨g,0+2,none⟩) (by show g<w.heap.size;omega)).trans q2;have q3:=(ai.cell (p:=⟨g,0+3,none⟩) (by show g<w.heap.size;omega)).trans q3;have q4:=(ai.cell (p:=⟨g,0+4,none⟩) (by show g<w.heap.size;omega)).trans q4;have q5:=(ai.cell (p:=⟨g,0+5,none⟩) (by show g<w.heap.size;omega)).trans q5;have aY:g<w1.heap.size:=Pb (by omega) ai.size;clear aL ai A1 q1 q0;go_wp2_with fail;refine(A2.out w1).mono ?_;rintro e w2 ⟨K,k2,rfl,aM,ak⟩;have aI:=a8 aM;have aF:=bTr aE ak;have q3:=(ak.cell (p:=⟨g,0+3,none⟩) (by show g<w1.heap.size;omega)).trans q3;have q4:=(ak.cell (p:=⟨g,0+4,none⟩) (by show g<w1.heap.size;omega)).trans q4;have q5:=(ak.cell (p:=⟨g,0+5,none⟩) (by show g<w1.heap.size;omega)).trans q5;have aZ:g<w2.heap.size:=Pb (by omega) ak.size;clear aM ak A2 q2 aE;go_wp2_with fail;refine(A3.out w2).mono ?_;rintro e w3 ⟨J,k3,rfl,aN,ap⟩;have ax:=a8 aN;have aG:=bTr aF ap;have q4:=(ap.cell (p:=⟨g,0+4,none⟩) (by show g<w2.heap.size;omega)).trans q4;have q5:=(ap.cell (p:=⟨g,0+5,none⟩) (by show g<w2.heap.size;omega)).trans q5;have ba:g<w3.heap.size:=Pb (by omega) ap.size;clear aN ap A3 q3 aF;go_wp2_with fail;refine(A4.out w3).mono ?_;rintro e w4 ⟨M,k4,rfl,aO,ar⟩;have aJ:=a8 aO;have aH:=bTr aG ar;have q5:=(ar.cell (p:=⟨g,0+5,none⟩) (by show g<w3.heap.size;omega)).trans q5;have bb:g<w4.heap.size:=Pb (by omega) ar.size;clear aO ar A4 q4 aG;go_wp2_with fail;refine(A5.out w4).mono ?_;rintro e A ⟨N,k5,rfl,aP,aC⟩;have aK:=a8 aP;have al:=bTr aH aC;have bc:g<A.heap.size:=Pb (by omega) aC.size;clear aP aC A5 q5 aH;have S5:=HS.below al (by omega);have ac:=a8 (show jc A B (.slice am s.mails.length E) s.mails from HM.below al (OV _));obtain⟨-,-,-,-,-,-,-,c7⟩:=S5.c8;obtain⟨-,-,-,c3⟩:=S5.c4;have fz:=fun j=>S5.fz j;have af:=a8 (show dX gs B w A from dX.of_below al hB);have HT:=a8 (AI (s:=s) aT aw aI ax aJ aK);have HY:=a8 (show dV false ([x0,x1,x2,x3,x4,x5].map (·.data.toList)) s=dV false [[65],x1.data.toList,x2.data.toList,x3.data.toList,x4.data.toList,x5.data.toList] s by rw[←HX.out];rfl);have ag:=a8 S5;have aj:B≤A.heap.size:=O0 hB al.size;clear S5 HS HM al HX;cases k1 with
 |false=>
  have O:=a8 (HY.trans (HT.trans (OR (by simp))));go_wp2;go_ret;exact⟨af,.inr ⟨O,rfl⟩⟩
 |true=>
 cases k2 with
 |false=>
  have O:=a8 (HY.trans (HT.trans (OR (by simp))));go_wp2;go_ret;exact⟨af,.inr ⟨O,rfl⟩⟩
 |true=>
 cases k3 with
 |false=>
  have O:=a8 (HY.trans (HT.trans (OR (by simp))));go_wp2;go_ret;exact⟨af,.inr ⟨O,rfl⟩⟩
 |true=>
 cases k4 with
 |false=>
  have O:=a8 (HY.trans (HT.trans (OR (by simp))));go_wp2;go_ret;exact⟨af,.inr ⟨O,rfl⟩⟩
 |true=>
 cases k5 with
 |false=>
  have O:=a8 (HY.trans (HT.trans (OR (by simp))));go_wp2;go_ret;exact⟨af,.inr ⟨O,rfl⟩⟩
 |true=>
 have b1:=ey (eE aw);have b3:=ey (eE ax);have aW:(z:Int)≤4294967294:=(by omega);have aX:(J:Int)≤2147483647:=(by omega);have ao:=a8 (HY.trans (HT.trans (OS rfl)));clear HT HY aw aI ax aJ aK;by_cases h0:s.mails.length=0
 ·have an:=a8 (GM (u:=z) h0);have aV:s.mails.length≤1048576:=(by omega);rw[h0] at ag ac c7⊢;clear h0 aS;go_upto_region 28 with fail;go_quiet(fail);have Z:=OI (OX A.heap.size A) nq;have I:=a8 (show StI (A.drewN nq) gs s (.slice am 0 E) from ag.below Z (by omega));have Q:=a8 (show jc (A.drewN nq) B (.slice am 0 E) s.mails from ac.below Z (OV _));have Y:=a8 (af.trans (dX.of_below Z aj));obtain⟨-,-,-,c3,-,-,-,c7⟩:=I.c8;have fz:=fun j=>I.fz j;have ad:B≤(A.drewN nq).heap.size:=aj;clear Z ag ac;generalize A.drewN nq=w6 at I Q Y c3 c7 fz ad⊢;by_cases ae:s.next≤z
  ·have av:(s.next:Int)≤(z:Int):=(by omega);have O:=a8 (ao.trans (by rw[OS (an.out),OS ae]));have V:=a8 (show StI (w6.setCell ⟨gs,3,none⟩ (.int .u32 ((z:Int)+1))) gs ⟨s.val,z+1,s.gen,s.mails⟩ (.slice am 0 E) from by
    have h:=I.set 3 (.int .u32 ((z:Int)+1));show Blk _ gs (stI _ _) _;simpa[stI] using h)
   have U:=a8 (show jc (w6.setCell ⟨gs,3,none⟩ (.int .u32 ((z:Int)+1))) B (.slice am 0 E) s.mails from dM.keep Q (fun k hk=>OQ _ ⟨gs,3,none⟩ k _ (by have:=(dM.lt Q k hk).1;simp;omega)));have XW:=a8 (Y.set (j:=3) (.int .u32 ((z:Int)+1)));have aa:B≤(w6.setCell ⟨gs,3,none⟩ (.int .u32 ((z:Int)+1))).heap.size:=(by simp;exact ad);go_upto_region 32 with fail;generalize w6.setCell ⟨gs,3,none⟩ (.int .u32 ((z:Int)+1))=W at V U XW aa⊢;clear ae I Q Y c3 c7 fz;obtain⟨-,-,-,-,-,-,-,aA⟩:=V.c8;have MA:=a8 (show jc (W.alloc (.cells #[uI z,.int .i64 0,.int .u32 0,sN,sN,iI K,uI J,iI N,iI M,.bool false,.string ⟨#[]⟩] 108)) B (.slice am 0 E) s.mails from U.below (nAl W _) (OV _));have CA:=a8 (show∀j u,(ml0 ⟨z,K,J,M,N⟩)[j]? =some u→(W.alloc (.cells #[uI z,.int .i64 0,.int .u32 0,sN,sN,iI K,uI J,iI N,iI M,.bool false,.string ⟨#[]⟩] 108)).cell? ⟨W.heap.size,j,none⟩=some u from fun j u hj=>((dQ W #[uI z,.int .i64 0,.int .u32 0,sN,sN,iI K,uI J,iI N,iI M,.bool false,.string ⟨#[]⟩] 108).cell j).trans (by rw[←hj];simp[ml0]));go_wp2_with (first
    |(at_builtin;refine ix _ rfl (.tmp 240) (.tmp 249) rfl B (.slice am 0 E) s.mails ⟨z,K,J,M,N⟩ W.heap.size 1 rfl rfl ?_ ?_ ?_ ?_ ?_;(exact MA.out);(exact CA.out);(omega);(rw[OG];omega);intro v9 w9 R ab;(obtain⟨a9,m9,c9,rfl⟩:=eG R);have G:=a8 (yw V XW au aa U R ab);have az:=G.2.1;have aB:=G.2.2;clear R ab)
    |go_in)
   go_ret;exact⟨G.1.1,.inl ⟨_,_,O,rfl,G.1.2.1,G.1.2.2⟩⟩
  ·have av:¬(s.next:Int)≤(z:Int):=(by omega);have O:=a8 (ao.trans (by rw[OS (an.out),OR ae]));have V:=I;have U:=Q;have XW:=Y;have aa:B≤w6.heap.size:=ad;go_upto_region 32 with fail;generalize w6=W at V U XW aa⊢;clear ae I Q Y c3 c7 fz;obtain⟨-,-,-,-,-,-,-,aA⟩:=V.c8;have MA:=a8 (show jc (W.alloc (.cells #[uI z,.int .i64 0,.int .u32 0,sN,sN,iI K,uI J,iI N,iI M,.bool false,.string ⟨#[]⟩] 108)) B (.slice am 0 E) s.mails from U.below (nAl W _) (OV _));have CA:=a8 (show∀j u,(ml0 ⟨z,K,J,M,N⟩)[j]? =some u→(W.alloc (.cells #[uI z,.int .i64 0,.int .u32 0,sN,sN,iI K,uI J,iI N,iI M,.bool false,.string ⟨#[]⟩] 108)).cell? ⟨W.heap.size,j,none⟩=some u from fun j u hj=>((dQ W #[uI z,.int .i64 0,.int .u32 0,sN,sN,iI K,uI J,iI N,iI M,.bool false,.string ⟨#[]⟩] 108).cell j).trans (by rw[←hj];simp[ml0]));go_wp2_with (first
    |(at_builtin;refine ix _ rfl (.tmp 240) (.tmp 249) rfl B (.slice am 0 E) s.mails ⟨z,K,J,M,N⟩ W.heap.size 1 rfl rfl ?_ ?_ ?_ ?_ ?_;(exact MA.out);(exact CA.out);(omega);(rw[OG];omega);intro v9 w9 R ab;(obtain⟨a9,m9,c9,rfl⟩:=eG R);have G:=a8 (yw V XW au aa U R ab);have az:=G.2.1;have aB:=G.2.2;clear R ab)
    |go_in)
   go_ret;exact⟨G.1.1,.inl ⟨_,_,O,rfl,G.1.2.1,G.1.2.2⟩⟩
 ·obtain⟨L,hL⟩:∃L,s.mails.length=L+1:=⟨s.mails.length-1,by omega⟩
  have hd:decide ((0:Int)<((L+1:Nat):Int))=true:=(by simp);obtain⟨gm,rfl,be,bf⟩:=dM.at0 ac (by rw[OW];omega);have hc:=dM.cell ac L 0 (by rw[OW];omega) (by simp[ml0]);simp only[Po,ml0,List.getElem_cons_zero,Nat.add_zero] at hc;have ay:=a8 (D5 (u:=z) hL);generalize (s.mails[L]'(by omega)).uid=lu at hc ay;rw[hL] at ag ac c7⊢;by_cases bd:z≤lu
  ·have aR:decide ((z:Int)≤(lu:Int))=true:=(by simp;omega);have O:=a8 (ao.trans (by rw[OR];rw[ay.out];simp;omega));go_upto_region 28 with fail;go_quiet(fail);have Z:=OI (OX A.heap.size A) nq;have I:=a8 (show StI (A.drewN nq) gs s (sS gm (L+1) E) from ag.below Z (by omega));have Q:=a8 (show jc (A.drewN nq) B (sS gm (L+1) E) s.mails from ac.below Z (OV _));have Y:=a8 (af.trans (dX.of_below Z aj));obtain⟨-,-,-,c3,-,-,-,c7⟩:=I.c8;have fz:=fun j=>I.fz j;have ad:B≤(A.drewN nq).heap.size:=aj;clear Z ag ac;generalize A.drewN nq=w6 at I Q Y c3 c7 fz ad⊢;go_wp2;go_ret;exact⟨Y,.inr ⟨O,rfl⟩⟩
  ·have aR:decide ((z:Int)≤(lu:Int))=false:=(by simp;omega);have an:=a8 (show lB s.mails z=true by rw[ay.out];simp;omega);go_upto_region 28 with fail;go_quiet(fail);have Z:=OI (OX A.heap.size A) nq;have I:=a8 (show StI (A.drewN nq) gs s (sS gm (L+1) E) from ag.below Z (by omega));have Q:=a8 (show jc (A.drewN nq) B (sS gm (L+1) E) s.mails from ac.below Z (OV _));have Y:=a8 (af.trans (dX.of_below Z aj));obtain⟨-,-,-,c3,-,-,-,c7⟩:=I.c8;have fz:=fun j=>I.fz j;have ad:B≤(A.drewN nq).heap.size:=aj;clear Z ag ac;generalize A.drewN nq=w6 at I Q Y c3 c7 fz ad⊢;by_cases ae:s.next≤z
   ·have av:(s.next:Int)≤(z:Int):=(by omega);have O:=a8 (ao.trans (by rw[OS (an.out),OS ae]));have V:=a8 (show StI (w6.setCell ⟨gs,3,none⟩ (.int .u32 ((z:Int)+1))) gs ⟨s.val,z+1,s.gen,s.mails⟩ (sS gm (L+1) E) from by
     have h:=I.set 3 (.int .u32 ((z:Int)+1));show Blk _ gs (stI _ _) _;simpa[stI] using h)
    have U:=a8 (show jc (w6.setCell ⟨gs,3,none⟩ (.int .u32 ((z:Int)+1))) B (sS gm (L+1) E) s.mails from dM.keep Q (fun k hk=>OQ _ ⟨gs,3,none⟩ k _ (by have:=(dM.lt Q k hk).1;simp;omega)));have XW:=a8 (Y.set (j:=3) (.int .u32 ((z:Int)+1)));have aa:B≤(w6.setCell ⟨gs,3,none⟩ (.int .u32 ((z:Int)+1))).heap.size:=(by simp;exact ad);go_upto_region 32 with fail;generalize w6.setCell ⟨gs,3,none⟩ (.int .u32 ((z:Int)+1))=W at V U XW aa⊢;clear ae I Q Y c3 c7 fz;obtain⟨-,-,-,-,-,-,-,aA⟩:=V.c8;have MA:=a8 (show jc (W.alloc (.cells #[uI z,.int .i64 0,.int .u32 0,sN,sN,iI K,uI J,iI N,iI M,.bool false,.string ⟨#[]⟩] 108)) B (sS gm (L+1) E) s.mails from U.below (nAl W _) (OV _));have CA:=a8 (show∀j u,(ml0 ⟨z,K,J,M,N⟩)[j]? =some u→(W.alloc (.cells #[uI z,.int .i64 0,.int .u32 0,sN,sN,iI K,uI J,iI N,iI M,.bool false,.string ⟨#[]⟩] 108)).cell? ⟨W.heap.size,j,none⟩=some u from fun j u hj=>((dQ W #[uI z,.int .i64 0,.int .u32 0,sN,sN,iI K,uI J,iI N,iI M,.bool false,.string ⟨#[]⟩] 108).cell j).trans (by rw[←hj];simp[ml0]));go_wp2_with (first
     |(at_builtin;refine ix _ rfl (.tmp 240) (.tmp 249) rfl B (sS gm (L+1) E) s.mails ⟨z,K,J,M,N⟩ W.heap.size 1 rfl rfl ?_ ?_ ?_ ?_ ?_;(exact MA.out);(exact CA.out);(omega);(rw[OG];omega);intro v9 w9 R ab;(obtain⟨a9,m9,c9,rfl⟩:=eG R);have G:=a8 (yw V XW au aa U R ab);have az:=G.2.1;have aB:=G.2.2;clear R ab)
     |go_in)
    go_ret;exact⟨G.1.1,.inl ⟨_,_,O,rfl,G.1.2.1,G.1.2.2⟩⟩
   ·have av:¬(s.next:Int)≤(z:Int):=(by omega);have O:=a8 (ao.trans (by rw[OS (an.out),OR ae]));have V:=I;have U:=Q;have XW:=Y;have aa:B≤w6.heap.size:=ad;go_upto_region 32 with fail;generalize w6=W at V U XW aa⊢;clear ae I Q Y c3 c7 fz;obtain⟨-,-,-,-,-,-,-,aA⟩:=V.c8;have MA:=a8 (show jc (W.alloc (.cells #[uI z,.int .i64 0,.int .u32 0,sN,sN,iI K,uI J,iI N,iI M,.bool false,.string ⟨#[]⟩] 108)) B (sS gm (L+1) E) s.mails from U.below (nAl W _) (OV _));have CA:=a8 (show∀j u,(ml0 ⟨z,K,J,M,N⟩)[j]? =some u→(W.alloc (.cells #[uI z,.int .i64 0,.int .u32 0,sN,sN,iI K,uI J,iI N,iI M,.bool false,.string ⟨#[]⟩] 108)).cell? ⟨W.heap.size,j,none⟩=some u from fun j u hj=>((dQ W #[uI z,.int .i64 0,.int .u32 0,sN,sN,iI K,uI J,iI N,iI M,.bool false,.string ⟨#[]⟩] 108).cell j).trans (by rw[←hj];simp[ml0]));go_wp2_with (first
     |(at_builtin;refine ix _ rfl (.tmp 240) (.tmp 249) rfl B (sS gm (L+1) E) s.mails ⟨z,K,J,M,N⟩ W.heap.size 1 rfl rfl ?_ ?_ ?_ ?_ ?_;(exact MA.out);(exact CA.out);(omega);(rw[OG];omega);intro v9 w9 R ab;(obtain⟨a9,m9,c9,rfl⟩:=eG R);have G:=a8 (yw V XW au aa U R ab);have az:=G.2.1;have aB:=G.2.2;clear R ab)
     |go_in)
    go_ret;exact⟨G.1.1,.inl ⟨_,_,O,rfl,G.1.2.1,G.1.2.2⟩⟩
theorem pO{ws:List (List UInt8)}{s:IX}(z:¬(ws.length=3∧ws.head? =some [70]))(A:¬(ws.length=6∧ws.head? =some [65]∧s.mails.length<100)):dV false ws s=none:=by
 unfold dV;rw[OR (by simp)];unfold nh;rw[OR z,OR A]
theorem AR(gs B:Nat)(Q:Nat)(first:Bool)(v:Value)(ws:List BA)(s:IX)(O:Value)(w:World)(I:StI w gs s O)(J:jc w B O s.mails)(V:gs<B)(R:B≤w.heap.size)(E:fB w Q v ws)(Y:∀y∈ws,y.size≤40000)(ac:s.mails.length≤100):
  Calls prog 70 #[pP gs,.bool first,v] w (xP gs B first (ws.map (·.data.toList)) s w):=by
 cases first with
 |true=>exact yD gs B Q v ws s O w I J V R E Y
 |false=>
 have M:=a8 (show dX gs B w w from dX.of_below (OX _ _) R);by_cases h3:ws.length=3
 ·obtain⟨z,L,x2,rfl⟩:=xq h3;by_cases A:z.data.toList=[70]
  ·exact yC gs B Q v z L x2 s O w I J V R E Y A ac
  ·have K:=a8 (show dV false ([z,L,x2].map (·.data.toList)) s=none from pO (by simp[A]) (by simp));have hq:(z.toList==[70])=false:=(by rw[OC];simpa using A);have aa:(z.toList !=[70])=true:=(by rw[OC];simpa using A);rcases E.at with⟨_,N⟩|⟨g,cap,rfl,Z,_,U,G⟩
   ·cases N
   have q0:=G 0 z rfl;clear G I J E A;go_enter func70,ntmps70;go_wp2;go_ret;exact⟨M,.inr ⟨K,rfl⟩⟩
 by_cases h6:ws.length=6
 ·obtain⟨z,L,x2,x3,x4,x5,rfl⟩:=Li h6;by_cases A:z.data.toList=[65]
  ·by_cases ab:s.mails.length<100
   ·exact yE gs B Q v z L x2 x3 x4 x5 s O w I J V R E Y A ab
   ·have K:=a8 (show dV false ([z,L,x2,x3,x4,x5].map (·.data.toList)) s=none from pO (by simp) (by simp;omega));have hq:(z.toList==[65])=true:=(by rw[OC,A];rfl);have aa:(z.toList !=[65])=false:=(by rw[OC,A];rfl);rcases E.at with⟨_,N⟩|⟨g,cap,rfl,Z,_,U,G⟩
    ·cases N
    have q0:=G 0 z rfl;obtain⟨am,cm,rfl⟩:=J.slice;rw[OW] at*;obtain⟨-,-,-,-,-,-,-,c7⟩:=I.c8;have ah:(100:Int)≤(s.mails.length:Int):=(by omega);clear G I J E A;go_enter func70,ntmps70;go_wp2;go_ret;exact⟨M,.inr ⟨K,rfl⟩⟩
  ·have K:=a8 (show dV false ([z,L,x2,x3,x4,x5].map (·.data.toList)) s=none from pO (by simp) (by simp[A]));have hq:(z.toList==[65])=false:=(by rw[OC];simpa using A);have aa:(z.toList !=[65])=true:=(by rw[OC];simpa using A);rcases E.at with⟨_,N⟩|⟨g,cap,rfl,Z,_,U,G⟩
   ·cases N
   have q0:=G 0 z rfl;clear G I J E A;go_enter func70,ntmps70;go_wp2;go_ret;exact⟨M,.inr ⟨K,rfl⟩⟩
 have K:=a8 (show dV false (ws.map (·.data.toList)) s=none from pO (by simp[h3]) (by simp[h6]));rcases E.at with⟨rfl,rfl⟩|⟨g,cap,rfl,Z,_,U,G⟩
 ·clear I J E;go_enter func70,ntmps70;go_wp2;go_ret;exact⟨M,.inr ⟨K,rfl⟩⟩
 ·have ad:¬((ws.length:Nat):Int)=3:=(by omega);have ae:(((ws.length:Nat):Int)==3)=false:=(by simp;omega);have af:¬((ws.length:Nat):Int)=6:=(by omega);have ag:(((ws.length:Nat):Int) !=6)=true:=(by simp;omega);clear I J E G;go_enter func70,ntmps70;go_wp2;go_ret;exact⟨M,.inr ⟨K,rfl⟩⟩
def stU(s:UX)(dv:Value):Array Value:= #[.int .i64 0,.int .i64 3,.int .u32 (s.val:Int),.int .u32 (s.next:Int),.int .u32 0,.int .i64 0,.int .i64 0,sN,dv]
abbrev StU(w:World)(g:Nat)(s:UX)(dv:Value):Prop:=Blk w g (stU s dv) 48
def xY(gs B:Nat)(first:Bool)(wsL:List (List UInt8))(s:UX)(w:World)(e:Ending)(w':World):Prop:=
 dX gs B w w'∧((∃s' dv',d9 first wsL s=some s'∧e= .returned (.bool true)∧StU w' gs s' dv'∧kK w' B dv' s'.dead)∨(d9 first wsL s=none∧e= .returned (.bool false)))
theorem Cn{I x2:List UInt8}{s:UX}{v n:Nat}{z A:Bool}(E:ni I 1 gH v z)(G:ni x2 1 gH n A):
  kD [[86],I,x2] s=if(z&&A)=true then some ⟨v,n,s.dead⟩ else none:=by
 unfold kD;cases z with
 |false=>simp[gt E]
 |true=>
  cases A with
  |false=>simp[gt G]
  |true=>simp[eE E,eE G]
theorem ud(gs B:Nat)(ai:Nat)(v:Value)(ws:List BA)(s:UX)(L:Value)(w:World)(J:StU w gs s L)(M:kK w B L s.dead)(ao:gs<B)(hB:B≤w.heap.size)(G:fB w ai v ws)(ah:∀y∈ws,y.size≤40000):
  Calls prog 75 #[pP gs,.bool true,v] w (xY gs B true (ws.map (·.data.toList)) s w):=by
 have N:=a8 (show dX gs B w w from dX.of_below (OX _ _) hB);have HS:=a8 J;have HM:=a8 M;by_cases hl:ws.length=3
 ·obtain⟨z,I,x2,rfl⟩:=xq hl;rcases G.at with⟨_,hb⟩|⟨g,cap,rfl,hg,_,aj,A⟩
  ·cases hb
  by_cases E:z.data.toList=[86]
  ·have hq:(z.toList==[86])=true:=(by rw[OC,E];rfl);have al:(z.toList !=[86])=false:=(by rw[OC,E];rfl);have q0:=A 0 z rfl;have q1:=A 1 I rfl;have q2:=A 2 x2 rfl;have A1:=a8 (fun(X:World)=>fS I 1 4294967295 X (by have:=ah I (by simp);omega) (by omega));have A2:=a8 (fun(X:World)=>fS x2 1 4294967295 X (by have:=ah x2 (by simp);omega) (by omega));have HX:=a8 E;clear A E J M G;go_enter func75,ntmps75;go_wp2_with fail;refine(A1.out w).mono ?_;rintro e w1 ⟨n1,k1,rfl,af,V⟩;have ac:=a8 af;have aa:=a8 V;have q2:=(V.cell (p:=⟨g,0+2,none⟩) (by show g<w.heap.size;omega)).trans q2;clear af V A1 q0 q1;go_wp2_with fail;refine(A2.out w1).mono ?_;rintro e R ⟨n2,k2,rfl,ag,ae⟩;have ad:=a8 ag;have O:=bTr aa ae;clear ag ae A2 q2 aa;have S3:=HS.below O (by omega);obtain⟨-,-,c2,c3⟩:=S3.c4;have fz:=fun j=>S3.fz j;have ab:=a8 (show kK R B L s.dead from dM.below HM O (OV _));have ak:=a8 S3;have U:=a8 (show dX gs B w R from dX.of_below O hB);have Y:=a8 (Cn (s:=s) ac ad);have Z:=a8 (show d9 true ([z,I,x2].map (·.data.toList)) s=kD [[86],I.data.toList,x2.data.toList] s by unfold d9;rw[OS rfl,←HX.out];rfl);clear S3 HS HM N O HX;cases k1 with
   |false=>
    have K:=a8 (Z.trans (Y.trans (OR (by simp))));go_wp2;go_ret;exact⟨(U.set _).set _,.inr ⟨K,rfl⟩⟩
   |true=>
    cases k2 with
    |false=>
     have K:=a8 (Z.trans (Y.trans (OR (by simp))));go_wp2;go_ret;exact⟨(U.set _).set _,.inr ⟨K,rfl⟩⟩
    |true=>
     have K:=a8 (Z.trans (Y.trans (OS rfl)));have b1:=(ey (eE ac)).2;have b2:=(ey (eE ad)).2;have am:(n1:Int)≤4294967295:=(by omega);have an:(n2:Int)≤4294967295:=(by omega);go_wp2;go_ret;refine⟨(U.set _).set _,.inl ⟨_,L,K,rfl,?_,?_⟩⟩
     ·have h:=(ak.set 2 (uI n1)).set 3 (uI n2);show Blk _ gs (stU ⟨n1,n2,s.dead⟩ L) _;simpa[stU] using h
     ·refine dM.keep ab (fun k hk=> ?_);have:=(dM.lt ab k hk).1;rw[OQ _ ⟨gs,3,none⟩ k _ (by simp;omega),OQ _ ⟨gs,2,none⟩ k _ (by simp;omega)]
  ·have hq:(z.toList==[86])=false:=(by rw[OC];simpa using E);have al:(z.toList !=[86])=true:=(by rw[OC];simpa using E);have Q:=a8 (show d9 true ([z,I,x2].map (·.data.toList)) s=none by unfold d9 kD;simp[E]);have q0:=A 0 z rfl;clear A E J M G;go_enter func75,ntmps75;go_wp2;go_ret;exact⟨N,.inr ⟨Q,rfl⟩⟩
 ·have Q:=a8 (show d9 true (ws.map (·.data.toList)) s=none by
   unfold d9 kD;rw[OS rfl];split
   ·next a b c e=>
    have:=OL List.length e;simp at this;exact OH this hl
   ·rfl)
  have aq:(((ws.length:Nat):Int) !=3)=true:=(by simp;omega);have ap:¬((ws.length:Nat):Int)=3:=(by omega);rcases G.at with⟨rfl,rfl⟩|⟨g,cap,rfl,hg,_,aj,A⟩
  ·clear J M G;go_enter func75,ntmps75;go_wp2;go_ret;exact⟨N,.inr ⟨Q,rfl⟩⟩
  ·clear J M G A;go_enter func75,ntmps75;go_wp2;go_ret;exact⟨N,.inr ⟨Q,rfl⟩⟩
theorem Ld:(prog.info? 44).map (fun i=>(i.zero,i.size,i.bytes))=some (some (.int .u32 0),1,4):=by kernel_rfl
theorem qx{K:Array Oper}{J:List Oper}{A:Act}(w:World)(U:o.guard=none)(s x:Operand)
  (ho:o.op= .call {callee:= .builtin .append,args:= #[s,x],argTypes:= #[46,46]})
  (z:Nat) (v:Value) (ds:LN) (d:Nat) (G c:Nat) (hs:A.eval s=v) (hx:A.eval x=sS G 1 c) (R:kK w z v ds)
  (hc:w.cell? ⟨G,0,none⟩=some (.int .u32 (d:Int))) (aa:ds.length≤1048576) (M:z≤w.heap.size)
  (h:∀E w',kK w' z E (ds++[d])→w.grownBy w' v.ownBlock→wpList prog K Q J (A.put o.dst E) w'):wpList prog K Q (o::J) A w:=by
 obtain⟨i0,hi,V,Y,Z⟩:=info_parts Ld;have N:w.ownsRow z 44 1 v ds.length (ds.map fun d:Nat=>[Value.int .u32 (d:Int)]).flatten:=(by have:=R.2;rw[OW] at this;exact this);refine wpList_append_own w U s x 46 ho z 44 i0 (.int .u32 0) 1 4 underlying46 hi V Y Z rfl (by decide) v ds.length (ds.map fun d:Nat=>[Value.int .u32 (d:Int)]).flatten hs N ⟨G,0,none⟩ 1 c [uI d] hx (by simp) ?_ ?_ (by unfold maxLen;omega) (by omega) M ?_
 ·intro j u I;rw[ez]
  match j with
  |0=>simp only[Py,OY] at I;rw[←I];exact hc
  |j+1=>simp at I
 ·intro u L;simp only[Pd,Pw,or_false] at L;rw[L];rfl
 ·intro E w' O hg _;refine h E w' ⟨?_,?_⟩ hg
  ·intro y hy;obtain⟨d',_,rfl⟩:=Pg.1 hy;rfl
  ·rw[OW,O1,O7,PQ];simpa using O
theorem KC{ws:List (List UInt8)}{s:UX}(h:ws.length<3∨ws.head?≠some [88]):d9 false ws s=none:=by
 unfold d9;rw[OR (by simp)];unfold oZ;split
 ·next a b x xs=>
  rcases h with h|h
  ·simp at h;omega
  ·rw[OR];rintro rfl;exact h rfl
 ·rfl
theorem zZ{last:Nat}{xs:List (List UInt8)}{ds:LN}(h:j<xs.length)(e:dT xs[j] (last+1) (n-1)=some u):fG n (xs.drop j) last ds=fG n (xs.drop (j+1)) u (ds++[u]):=by
 rw[fP xs j h,fG,e]
theorem FB{last:Nat}{xs:List (List UInt8)}{ds:LN}(h:j<xs.length)(e:dT xs[j] (last+1) (n-1)=none):fG n (xs.drop j) last ds=none:=by
 rw[fP xs j h,fG,e]
theorem NB{s1:UX}{z:Value}{d:Nat}{o:Obj}(Z:StU W gs s1 E)(J:dX gs B w W)(Q:gs<B)(aa:B≤W.heap.size)(hm:kK W B E s1.dead)(N:kK w' B z (s1.dead++[d]))(I:(W.alloc o).grownBy w' E.ownBlock)(R:g<W.heap.size)(V:E.ownBlock≠some g)(O:g≠gs):
  (dX gs B w (w'.setCell ⟨gs,8,none⟩ z)∧StU (w'.setCell ⟨gs,8,none⟩ z) gs {s1 with dead:=s1.dead++[d]} z∧kK (w'.setCell ⟨gs,8,none⟩ z) B z (s1.dead++[d]))∧w'.cell? ⟨gs,8,none⟩=some E∧w'.frozen? ⟨gs,8,none⟩=false∧(w'.setCell ⟨gs,8,none⟩ z).heap[g]? =W.heap[g]?∧W.heap.size≤(w'.setCell ⟨gs,8,none⟩ z).heap.size:=by
 have U:∀k,E.ownBlock=some k→B≤k:=fun k G=>(dM.lt hm k G).1;have A:=nAl W o;have L:∀k,k<B→w'.heap[k]? =W.heap[k]? :=fun k G=>(I.block k (by have:=A.size;omega) (fun e=>by have:=U k e.symm;omega)).trans (A.block k (by omega));have K:StU w' gs s1 E:=(L gs Q).trans Z;have Y:W.heap.size≤(w'.setCell ⟨gs,8,none⟩ z).heap.size:=by
  have h1:=I.size;have h2:=A.size;simp only[World.size_setCell];omega
 refine⟨⟨⟨?_,?_,?_,?_,?_⟩,?_,?_⟩,K.cell 8,K.fz 8,?_,Y⟩
 ·exact I.os.trans (A.os.trans J.os)
 ·exact I.tape.trans (A.tape.trans J.tape)
 ·exact I.output.trans (A.output.trans J.output)
 ·have h3:=J.size;omega
 ·intro k G M;rw[OQ w' ⟨gs,8,none⟩ k z (by simpa using M)];exact(L k G).trans (J.block k G M)
 ·have h:=K.set 8 z;show Blk _ gs (stU _ z) _;simpa[stU] using h
 ·refine dM.keep N (fun k G=>OQ w' ⟨gs,8,none⟩ k z ?_);have:=(dM.lt N k G).1;simp;omega
 ·rw[OQ w' ⟨gs,8,none⟩ g z (by simpa using O)];exact(I.block g (by have:=A.size;omega) (fun e=>V e.symm)).trans (A.block g R)
theorem zp(f:FuncId)(L:∀(v u z:Value) (w:World),(callFunc f #[v,u,z]).run prog w= .ok (.enter f #[v,u,z]) w){I:Array Oper}{A:Act}{K:Act→World→Prop}{E:Prop}(x y t:Operand)(ts:Array TypeId)(G:o.guard=none)
  (J:o.op= .call {callee:= .value (.func f),args:= #[x,y,t],argTypes:=ts}) (v u z:Value) (R:A.eval x=v) (U:A.eval y=u) (N:A.eval t=z) (h:Calls prog f #[v,u,z] w fun e w'=>∃r,e= .returned r∧K (A.put o.dst r) w'):
  if Region.wanted o (yielded I A.tmps)=true then Oper.wp prog o A w K Q else E:=by
 have O:Region.wanted o (yielded I A.tmps)=true:=(by simp[Region.wanted,G]);rw[OS O];obtain⟨Z,op,ty,aa,V,Y⟩:=o;simp only at J G;subst J;unfold Oper.wp;rw[execOp_call_go];simp only[List.map_toArray,Pe,PD,R,U,N,List.append_toArray,PC,Pm,L,Oper.upon_enter];refine h.mono ?_;rintro e w' ⟨r,rfl,M⟩;exact M
theorem BM(v u z:Value)(w:World):(callFunc 99 #[v,u,z]).run prog w= .ok (.enter 99 #[v,u,z]) w:=by kernel_rfl
theorem Lh(y:BA)(lo hi:Int)(l h:Nat)(E:lo=(l:Int))(A:hi=(h:Int))(w:World)(G:y.size≤1048576)(z:h<10000000000000):Calls prog 99 #[.string y,.int .i64 lo,.int .i64 hi] w (Hl y l h w):=by
 subst E A;exact fS y l h w G z
theorem GG{G:Nat}{A:Value}{ds:LN}{xs:List BA}(h:kK w B A ds)(k:fB w G (sS g n c) xs):A.ownBlock≠some g:=by
 intro e;rcases h.2.2 with⟨rfl,_⟩|⟨N,L,J,rfl,_,I,_⟩
 ·cases e
 ·simp only[Value.ownBlock,OY] at e;subst e;rcases k.2 with⟨z,_⟩|⟨O,M,K,z,_,E,_⟩
  ·cases z
  ·simp only[O3,OY,PG] at z;obtain⟨⟨rfl,_⟩,_⟩:=z;rw[I] at E;simp at E
theorem oB{xs:List BA}(h:fB w z (sS g n c) xs)(I:w'.heap[g]? =w.heap[g]?):fB w' z (sS g n c) xs:=by
 refine⟨h.1,?_⟩;rcases h.2 with J|⟨N,M,E,A,L,K,G⟩
 ·exact .inl J
 ·simp only[O3,OY,PG] at A;obtain⟨⟨rfl,_⟩,rfl,rfl⟩:=A;exact .inr ⟨g,c,E,rfl,L,I.trans K,G⟩
theorem Ey{z x2:List UInt8}{xs:List (List UInt8)}{s:UX}(h:dT z s.next 4294967295=some n):d9 false ([88]::z::x2::xs) s=(fG n (x2::xs) 0 s.dead).map (fun ds=>⟨s.val,n,ds⟩):=by
 unfold d9;rw[OR (by simp)];unfold oZ;have A:dT z s.next gH=some n:=h;simp only[A,if_true];cases fG n (x2::xs) 0 s.dead<;>rfl
theorem Ex{z x2:List UInt8}{xs:List (List UInt8)}{s:UX}(h:dT z s.next 4294967295=none):d9 false ([88]::z::x2::xs) s=none:=by
 unfold d9;rw[OR (by simp)];unfold oZ;have A:dT z s.next gH=none:=h;simp only[A,if_true]
theorem vL(gs B:Nat)(J:Nat)(v:Value)(E z x2:BA)(xs:List BA)(s:UX)(L:Value)(w:World)(aq:StU w gs s L)(hm:kK w B L s.dead)(bl:gs<B)(hB:B≤w.heap.size)(bA:B≤J)(bC:∀k,L.ownBlock=some k→k<J)(hw:fB w J v (E::z::x2::xs))(ar:∀y∈(E::z::x2::xs),y.size≤40000)(hx:E.data.toList=[88])(bK:1≤s.next)(bL:s.next≤4294967295)(aJ:s.dead.length+xs.length≤1000000):
  Calls prog 75 #[pP gs,.bool false,v] w (xY gs B false ((E::z::x2::xs).map (·.data.toList)) s w):=by
 rcases hw.at with⟨_,hb⟩|⟨g,cap,rfl,hg,bB,au,aa⟩
 ·cases hb
 have hq:(E.toList==[88])=true:=(by rw[OC,hx];rfl);have bJ:(E.toList !=[88])=false:=(by rw[OC,hx];rfl);have q0:=aa 0 E rfl;have q1:=aa 1 z rfl;have R:=a8 (fun(X:World)=>fS z s.next 4294967295 X (by have:=ar z (by simp);omega) (by omega));have HS:=a8 aq;have HM:=a8 hm;obtain⟨-,-,-,c3⟩:=aq.c4;have aT:=a8 (fun j x (h:(x2::xs)[j]? =some x)=>aa (j+2) x h);have bN:(s.next:Int)≤4294967295:=(by omega);have U:(E::z::x2::xs).length=xs.length+3:=rfl;rw[U] at au hw⊢;have HW:=a8 hw;have HX:=a8 hx;obtain⟨A,ao⟩:∃A,xs.length+3=A:=⟨_,rfl⟩
 rw[ao] at HW au⊢;have br:(A:Int)≤(cap:Int):=(by omega);have bE:(0:Int)<(A:Int):=(by omega);have bF:(1:Int)<(A:Int):=(by omega);have bG:(2:Int)≤(A:Int):=(by omega);have bH:¬(A:Int)<3:=(by omega);have ay:=a8 ao;clear ao;clear aa aq hm hw hx U;go_enter func75,ntmps75;go_upto_region 11 with fail;have bS:w.cell? ⟨g,1,none⟩=some (.string z):=q1;clear q0 q1;have bo:IntKind.i64.wrap (s.next:Int)=(s.next:Int):=(by first|go_num|(simp[IntKind.wrap,IntKind.signed,IntKind.bits];omega));go_cut [11,12] (fun a b wx=>∃(n:Nat) (ok:Bool),a=iI n∧b= .bool ok∧ni z.data.toList s.next 4294967295 n ok∧Below w.heap.size w wx)
 case first=>
  go_region_law (first
   |(refine zp 99 BM (.tmp 68) (.tmp 73) (.const (.int .i64 4294967295)) #[9,2,2] (by rfl) (by rfl) (.string z) (iI s.next) (.int .i64 4294967295) (by simp[go_sem]) (by first|(simp[go_sem,bo];done)|simp[go_sem]) (by simp[go_sem]) ?_;refine(R.out _).mono ?_;rintro e w1 ⟨n1,k1,rfl,aM,an⟩;have be:=a8 aM;have aS:=a8 an;clear aM an;refine⟨_,rfl,?_⟩)
   |fail)
  all_goals
   go_wp2_with fail;go_meet
   case rel=>exact⟨n1,k1,rfl,rfl,be,(OX _ _).drew.trans aS⟩
 case rest=>
  obtain⟨n,ok,rfl,rfl,M,Q⟩:=hcut;have af:=a8 (show dX gs B w wc from dX.of_below Q hB);have Z:=HS.below Q (by omega);have ag:=a8 (show kK wc B L s.dead from dM.below HM Q (OV _));have bm:g<w.heap.size:=hg;have av:=a8 (Q.block g bm);have bP:=Q.size;have N:=a8 (show d9 false ((E::z::x2::xs).map (·.data.toList)) s=d9 false ([88]::z.data.toList::x2.data.toList::xs.map (·.data.toList)) s by rw[←HX.out];rfl);clear Q R HS HM HX;cases ok with
  |false=>
   have HR:=a8 (N.trans (Ex (gt M)));go_wp2;go_ret;exact⟨af,.inr ⟨HR,rfl⟩⟩
  |true=>
   have K:=eE M;have an:=ey K;have HR:=a8 (N.trans (Ey (xs:=xs.map (·.data.toList)) (x2:=x2.data.toList) K));have bI:(n:Int)≤4294967295:=(by omega);have bi:=a8 Z;obtain⟨-,-,-,c3⟩:=Z.c4;have fz:=fun j=>Z.fz j;have aC:=a8 (oB HW av);have aA:=a8 (show StU (wc.setCell ⟨gs,3,none⟩ (uI n)) gs ⟨s.val,n,s.dead⟩ L from by
    have h:=Z.set 3 (uI n);show Blk _ gs (stU _ _) _;simpa[stU] using h)
   have ax:=a8 (show kK (wc.setCell ⟨gs,3,none⟩ (uI n)) B L s.dead from dM.keep ag (fun j hj=>OQ _ ⟨gs,3,none⟩ j _ (by have:=(dM.lt ag j hj).1;simp;omega)));have aD:=a8 (af.set (j:=3) (uI n));have aL:g≠gs:=(by omega);have aB:=a8 (show fB (wc.setCell ⟨gs,3,none⟩ (uI n)) J (sS g A cap) (E::z::x2::xs) from oB aC (OQ _ ⟨gs,3,none⟩ g _ (by simpa using aL)));have aF:B≤(wc.setCell ⟨gs,3,none⟩ (uI n)).heap.size:=(by simp;omega);have aQ:s.dead.length≤s.dead.length+0:=OV _;clear Z M N K bi ag af av aC HW aT;go_upto_region 15 with fail;clear c3 fz;generalize wc.setCell ⟨gs,3,none⟩ (uI n)=w1 at aA ax aD aB aF⊢;obtain⟨I,aN⟩:∃I,I+2=A:=⟨xs.length+1,by have:=ay.out;omega⟩
   have bz:=a8 aN;have U:I=(x2::xs).length:=(by have:=ay.out;simp;omega);have ab:=a8 U;have bO:(A:Int)-2=(I:Int):=(by omega);have bx:A-2=I:=(by omega);have bM:((A:Int)-2).toNat=I:=(by omega);clear aN U;have aV:=a8 aJ;have bw:I≤1000001:=(by have:=ab.out;simp at this;omega);have aU:=a8 (show∀(W:World),fB W J (sS g A cap) (E::z::x2::xs)→∀j (hj:j<(x2::xs).length),W.cell? ⟨g,2+j,none⟩=some (.string (x2::xs)[j]) from fun W hW j hj=>by
    rcases hW.at with⟨h,_⟩|⟨g',aP,h,_,_,_,hc⟩
    ·cases h
    ·simp only[O3,OY,PG] at h;obtain⟨⟨rfl,_⟩,_,_⟩:=h;have:=hc (j+2) ((x2::xs)[j]) (by simp);rw[show 2+j=0+(j+2) by omega];exact this)
   have bj:=a8 (fun j (hj:j<(x2::xs).length)=>ar (x2::xs)[j] (by simp));clear aJ ar aQ;go_wp2;go_loopw [13,15,16,17,87] (fun vl _ _ _ i wr=>∃(j last:Nat) (ds:LN) (V:Value),j≤I∧i=iI j∧vl=iI last∧last≤4294967295∧Hid (fG n (((x2::xs).map (·.data.toList)).drop j) last ds=fG n ((x2::xs).map (·.data.toList)) 0 s.dead)∧ds.length≤s.dead.length+j∧Hid (StU wr gs ⟨s.val,n,ds⟩ V)∧Hid (kK wr B V ds)∧Hid (dX gs B w wr)∧Hid (fB wr J (sS g A cap) (E::z::x2::xs))∧B≤wr.heap.size) (fun _ _ _ _ i _=>I-(intOf i).toNat)
   case atStart=>exact⟨0,0,s.dead,L,O4 _,rfl,rfl,O4 _,a8 rfl,OV _,aA,ax,aD,aB,aF⟩
   case round=>
    obtain⟨j,last,ds,V,hj,rfl,rfl,bt,HG,bD,ae,ah,am,ak,aH⟩:=hrel;by_cases bn:j<I
    ·have bu:(j:Int)<(I:Int):=(by omega);have Y:j<(x2::xs).length:=(by have:=ab.out;omega);have aI:=aU.out wr ak j Y;have bq:=bj.out j Y;have N:=a8 (fun u=>zZ (n:=n) (last:=last) (u:=u) (xs:=(x2::xs).map (·.data.toList)) (ds:=ds) (j:=j) (by simpa using Y));have az:=a8 (FB (n:=n) (last:=last) (xs:=(x2::xs).map (·.data.toList)) (ds:=ds) (j:=j) (by simpa using Y));have R:=a8 (fun(X:World)=>Lh (x2::xs)[j] ((last:Int)+1) ((n:Int)-1) (last+1) (n-1) (by omega) (by omega) X (by omega) (by omega));have al:=a8 (show(((x2::xs).map (·.data.toList))[j]'(by simpa using Y))=(x2::xs)[j].data.toList by rw[Po]);generalize bp:(x2::xs)[j]=xj at aI bq R al;clear bp;go_wp2_with fail;refine(R.out wr).mono ?_;rintro e G ⟨u,ok,rfl,M,O⟩;have aE:=a8 (am.trans (dX.of_below O aH));have S2:=ae.below O ae.lt;have ac:=a8 (show kK G B V ds from dM.below ah O (OV _));have aj:=a8 (show fB G J (sS g A cap) (E::z::x2::xs) from eZ ak O);have aG:B≤G.heap.size:=O0 aH O.size;clear O R aI ae ah am ak;cases ok with
     |false=>
      have ai:=a8 (show d9 false ((E::z::x2::xs).map (·.data.toList)) s=none by
       rw[HR.out];have h:=HG.out;rw[az.out (by rw[al.out];exact gt M)] at h;rw[show x2.data.toList::xs.map (·.data.toList)=(x2::xs).map (·.data.toList) from rfl,←h];rfl)
      go_wp2;go_ret;exact⟨aE,.inr ⟨ai,rfl⟩⟩
     |true=>
      have K:=eE M;have bQ:=ey K;have bR:(u:Int)≤4294967295:=(by omega);have bb:=a8 ((N.out u (by rw[al.out];exact K)).symm.trans HG);obtain⟨ad,nd,cd,rfl⟩:=eG ac.out;obtain⟨-,-,-,-,-,-,-,-,c8⟩:=S2.c9;have fz:=fun j=>S2.fz j;have bh:=a8 S2;have bf:=a8 (GG ac aj);have bc:=a8 (show g<G.heap.size from by
       rcases aj.at with⟨h,_⟩|⟨g',aP,h,h2,_⟩
       ·cases h
       ·simp only[O3,OY,PG] at h;obtain⟨⟨rfl,_⟩,_,_⟩:=h;exact h2)
      have aO:=a8 (fun(v':Value) (w':World) (ho:kK w' B v' (ds++[u])) (hg:(G.alloc (.cells #[uI u] 44)).grownBy w' (Value.slice ad nd cd).ownBlock)=>NB (s1:=⟨s.val,n,ds⟩) (d:=u) bh aE bl aG ac ho hg bc bf aL);have bd:=a8 (show(G.alloc (.cells #[uI u] 44)).cell? ⟨G.heap.size,0,none⟩=some (uI u) from OK _ _ 0 _ _ _ (OP G (.cells #[uI u] 44)));have bg:=a8 (show kK (G.alloc (.cells #[uI u] 44)) B (.slice ad nd cd) ds from dM.below ac (nAl G _) (OV _));have aR:ds.length≤1048576:=(by have:=aV.out;have:=ab.out;simp at this;omega);have aw:=a8 bn;have bk:B≤(G.alloc (.cells #[uI u] 44)).heap.size:=(by simp;omega);clear S2 K M N az HG;go_wp2_with (first
       |(at_builtin;refine qx _ rfl (.tmp 106) (.tmp 109) rfl B (.slice ad nd cd) ds u G.heap.size 1 rfl rfl ?_ ?_ ?_ ?_ ?_;(exact bg.out);(exact bd.out);(exact aR);(exact bk);intro v4 w4 ap aK;obtain⟨⟨e1,e2,e3⟩,e4,e5,e6,e7⟩:=aO.out v4 w4 ap aK;have aW:=a8 e1;have aX:=a8 e2;have aY:=a8 e3;have aZ:=a8 e6;have ba:=a8 e7;clear e1 e2 e3 e6 e7;obtain⟨a4,n4,c4,rfl⟩:=eG ap;clear ap aK)
       |go_in)
      go_roundw
      case rel=>exact⟨j+1,u,ds++[u],_,by have:=aw.out;omega,by go_num,rfl,by omega,bb,by rw[O1];simp;omega,aX,aY,aW,a8 (oB aj aZ),O0 aG ba⟩
      case measure=>have:=aw.out;simp[intOf];omega
    ·obtain rfl:j=I:=(by omega);have ai:=a8 (show d9 false ((E::z::x2::xs).map (·.data.toList)) s=some ⟨s.val,n,ds⟩ by
      rw[HR.out];have h:=HG.out;rw[List.drop_eq_nil_of_le (by rw[OW,←ab.out];exact OV _),fG] at h;rw[show x2.data.toList::xs.map (·.data.toList)=(x2::xs).map (·.data.toList) from rfl,←h];rfl)
     go_wp2;go_ret;exact⟨am,.inl ⟨_,V,ai,rfl,ae,ah⟩⟩
structure FM where
 x:XM
 ba:OA
 bc:Nat
 ea:OA
 ec:Nat
def mlF(m:FM):List Value:=[.int .u32 (m.x.uid:Int),.int .i64 (m.x.stamp:Int),.int .u32 (m.x.flags:Int),.slice m.ba m.x.body.length m.bc,.slice m.ea m.x.entry.length m.ec,.int .i64 (m.x.stamp0:Int),.int .u32 (m.x.flags0:Int),.int .i64 (m.x.bare:Int),.int .i64 (m.x.size:Int),.bool m.x.moved,.string m.x.card]
structure TxB(w:World)(gs:Nat)(v:Value)(a:OA)(c:Nat)(d:LN):Prop where
 row:dW w a d
 room:d.length≤c
 cap:c≤9223372036854775807
 ap:∀p,a=some p→p.spot=none∧(0<d.length→p.block≠gs∧v.ownBlock≠some p.block)
theorem TxB.nil(w:World)(gs:Nat)(v:Value):TxB w gs v none 0 []:=⟨fun h=>OH h (Nat.lt_irrefl _),OV _,by omega,fun p h=>by cases h⟩
theorem TxB.keep{v:Value}{a:OA}{d:LN}(h:TxB w gs v a c d)(K:∀p,a=some p→p.block≠gs→v.ownBlock≠some p.block→p.block<w.heap.size→w'.heap[p.block]? =w.heap[p.block]?):TxB w' gs v a c d:=by
 refine⟨fun z=> ?_,h.room,h.cap,h.ap⟩;obtain⟨b,A,rfl,E⟩:=h.row z;obtain⟨G,I⟩:=(h.ap _ rfl).2 z;have L:b<w.heap.size:=dG (E 0 z);have J:w'.heap[b]? =w.heap[b]? :=K ⟨b,A,none⟩ rfl G I L;exact⟨b,A,rfl,fun i hi=>by rw[ef J];exact E i hi⟩
theorem TxB.below{v:Value}{a:OA}{d:LN}(h:TxB w gs v a c d)(z:Below w.heap.size w w'):TxB w' gs v a c d:=h.keep (fun p _ _ _ A=>z.block p.block A)
theorem TxB.drop1{v:Value}{a:OA}{d:LN}(h:TxB w gs v a c d):TxB w gs v a c d.dropLast:=by
 refine⟨?_,by have:=h.room;simp;omega,h.cap,fun p z=>⟨(h.ap p z).1,fun A=>(h.ap p z).2 (by simp at A;omega)⟩⟩;rw[List.dropLast_eq_take];exact h.row.take _
structure il(w:World)(base gs:Nat)(v:Value)(ms:List FM):Prop where
 own:dM w base 108 11 v (ms.map mlF)
 tx:∀m∈ms,TxB w gs v m.ba m.bc m.x.body∧TxB w gs v m.ea m.ec m.x.entry
def fm0(m:IM):FM:=⟨xm0 m,none,0,none,0⟩
theorem il.of{v:Value}{ms:List IM}(gs:Nat)(h:jc w z v ms):il w z gs v (ms.map fm0):=by
 refine⟨?_,fun m A=> ?_⟩
 ·rw[PP];exact h
 ·obtain⟨i,_,rfl⟩:=Pg.1 A;exact⟨TxB.nil _ _ _,TxB.nil _ _ _⟩
theorem il.keep{v:Value}{ms:List FM}(h:il w z gs v ms)(E:∀b,b≠gs→b<w.heap.size→w'.heap[b]? =w.heap[b]?)(K:gs<z):il w' z gs v ms:=
 ⟨dM.keep h.own (fun g I=>E g (by have:=(dM.lt h.own g I).1;omega) (dM.lt h.own g I).2),fun m J=>⟨(h.tx m J).1.keep (fun p _ A _ G=>E _ A G),(h.tx m J).2.keep (fun p _ A _ G=>E _ A G)⟩⟩
theorem il.below{v:Value}{ms:List FM}(h:il w A gs v ms)(z:Below w.heap.size w w'):il w' A gs v ms:=
 ⟨dM.below h.own z (OV _),fun m E=>⟨(h.tx m E).1.below z,(h.tx m E).2.below z⟩⟩
theorem il.gset{v:Value}{ms:List FM}(h:il w z gs v ms)(E:gs<z)(u:Value):il (w.setCell ⟨gs,j,none⟩ u) z gs v ms:=
 h.keep (fun b A _=>OQ w ⟨gs,j,none⟩ b u (by simpa using A)) E
theorem il.put{I:Nat}{ms:List FM}(h:il w I gs (sS g n cap) ms)(i j:Nat)(hi:i<ms.length)(M:j<11)(u:Value)(z:FM)(L:mlF z=(mlF ms[i]).set j u)
  (J:TxB w gs (sS g n cap) z.ba z.bc z.x.body) (K:TxB w gs (sS g n cap) z.ea z.ec z.x.entry):
  il (w.setCell ⟨g,i*11+j,none⟩ u) I gs (sS g n cap) (ms.set i z):=by
 have A:∀{a c d},TxB w gs (sS g n cap) a c d→TxB (w.setCell ⟨g,i*11+j,none⟩ u) gs (sS g n cap) a c d:=fun{a c d} N=>N.keep (fun p _ _ E _=>OQ w ⟨g,i*11+j,none⟩ p.block u (by
  intro e;exact E (by rw[e];rfl)))
 refine⟨?_,fun m G=> ?_⟩
 ·have E:=h.own.store i j M u;have e:(ms.map mlF).modify i (fun x=>x.set j u)=(ms.set i z).map mlF:=by
   apply List.ext_getElem
   ·simp
   ·intro k O R;rw[List.getElem_modify];have Q:k<ms.length:=(by simpa using O);by_cases e:i=k
    ·subst e;simp[L]
    ·simp[e]
  rw[e] at E;exact E
 ·rcases List.mem_or_eq_of_mem_set G with G|rfl
  ·exact⟨A (h.tx m G).1,A (h.tx m G).2⟩
  ·exact⟨A J,A K⟩
theorem il.slice{v:Value}{ms:List FM}(h:il w z gs v ms):∃a cap,v= .slice a ms.length cap:=by
 obtain⟨a,cap,e⟩:=h.own.slice;rw[OW] at e;exact⟨a,cap,e⟩
theorem il.at0{a:OA}{ms:List FM}(h:il w z gs (.slice a n cap) ms)(A:0<ms.length):∃g,a=some ⟨g,0,none⟩∧z≤g∧g<w.heap.size:=h.own.at0 (by simpa using A)
theorem il.cell{ms:List FM}(h:il w A gs (sS g n cap) ms)(i j:Nat)(hi:i<ms.length)(z:j<11):w.cell? ⟨g,i*11+j,none⟩=(mlF ms[i])[j]? :=by
 have E:((ms.map mlF)[i]'(by simpa using hi)).length=11:=(by rw[Po];rfl);rw[h.own.cell i j (by simpa using hi) (by rw[E];exact z),OZ (by show j<11;exact z)];congr 1;simp
theorem il.frozen{ms:List FM}(h:il w z gs (sS g n cap) ms)(j:Nat):w.frozen? ⟨g,j,none⟩=false:=h.own.frozen j
theorem ox(gs B:Nat)(I:Nat)(v:Value)(ws:List BA)(s:UX)(w:World)(K:B≤w.heap.size)(hw:fB w I v ws)(hbad:ws.length<3∨(ws.map (·.data.toList)).head?≠some [88]):
  Calls prog 75 #[pP gs,.bool false,v] w (xY gs B false (ws.map (·.data.toList)) s w):=by
 have A:=a8 (show dX gs B w w from dX.of_below (OX _ _) K);have HC:=a8 (KC (ws:=ws.map (·.data.toList)) (s:=s) (hbad.imp (fun h=>by simpa using h) id));by_cases hl:ws.length<3
 ·have hli:((ws.length:Nat):Int)<3:=(by omega);rcases hw.at with⟨rfl,rfl⟩|⟨g,cap,rfl,M,_,G,z⟩
  ·clear hw hbad;go_enter func75,ntmps75;go_wp2;go_ret;exact⟨A,.inr ⟨HC,rfl⟩⟩
  ·clear hw hbad z;go_enter func75,ntmps75;go_wp2;go_ret;exact⟨A,.inr ⟨HC,rfl⟩⟩
 ·have hli:¬((ws.length:Nat):Int)<3:=by omega
  match ws,hl,hw,hbad,HC,hli with
  |x0::rest,hl,hw,hbad,HC,hli=>
   have E:x0.data.toList≠[88]:=by
    rcases hbad with h|h
    ·omega
    ·intro e;exact h (by simp[e])
   have Q:(x0.toList==[88])=false:=(by rw[OC];simpa using E);have O:(x0.toList !=[88])=true:=(by rw[OC];simpa using E);rcases hw.at with⟨_,L⟩|⟨g,cap,rfl,M,_,G,z⟩
   ·cases L
   have U:=z 0 x0 rfl;have J:(0:Int)<(((x0::rest).length:Nat):Int):=(by simp);generalize N:(x0::rest).length=R at hli G J⊢;clear hw hbad z N E;go_enter func75,ntmps75;go_wp2;go_ret;exact⟨A,.inr ⟨HC,rfl⟩⟩
theorem vK(gs B:Nat)(z:Nat)(first:Bool)(v:Value)(ws:List BA)(s:UX)(E:Value)(w:World)(I:StU w gs s E)(J:kK w B E s.dead)(G:gs<B)(A:B≤w.heap.size)(M:B≤z)(N:∀k,E.ownBlock=some k→k<z)(hw:fB w z v ws)(hws:∀y∈ws,y.size≤40000)(K:first=false→1≤s.next∧s.next≤4294967295)(hdl:s.dead.length+ws.length≤1000000):
  Calls prog 75 #[pP gs,.bool first,v] w (xY gs B first (ws.map (·.data.toList)) s w):=by
 cases first with
 |true=>exact ud gs B z v ws s E w I J G A hw hws
 |false=>
  match ws,hw,hws,hdl with
  |[],hw,hws,hdl=>exact ox gs B z v [] s w A hw (Or.inl (by simp))
  |[a],hw,hws,hdl=>exact ox gs B z v [a] s w A hw (Or.inl (by simp))
  |[a,b],hw,hws,hdl=>exact ox gs B z v [a,b] s w A hw (Or.inl (by simp))
  |x0::x1::x2::xs,hw,hws,hdl=>
   by_cases L:x0.data.toList=[88]
   ·exact vL gs B z v x0 x1 x2 xs s E w I J G A M N hw hws L (K rfl).1 (K rfl).2 (by simp at hdl;omega)
   ·exact ox gs B z v (x0::x1::x2::xs) s w A hw (Or.inr (by simpa using L))
def stX(kind:Int)(val next cur gen taken:Nat)(mv dv:Value):Array Value:= #[.int .i64 0,.int .i64 kind,.int .u32 (val:Int),.int .u32 (next:Int),.int .u32 (cur:Int),.int .i64 (gen:Int),.int .i64 (taken:Int),mv,dv]
abbrev StX(w:World)(g:Nat)(kind:Int)(val next cur gen taken:Nat)(mv dv:Value):Prop:=Blk w g (stX kind val next cur gen taken mv dv) 48
def MO(gs B:Nat)(s:IX)(f:Bool×LN)(w:World)(e:Ending)(w':World):Prop:=
 dX gs B w w'∧((∃fs mv',fd s.mails f=some (fs.map FM.x)∧e= .returned (.bool true)∧StX w' gs 1 s.val s.next 0 s.gen (dH s.mails) mv' (sN)∧il w' B gs mv' fs)∨(fd s.mails f=none∧e= .returned (.bool false)))
theorem dX.drew{gs B:Nat}{w w':World}(h:dX gs B w w'):dX gs B w w'.drew:=⟨h.os,h.tape,h.output,h.size,h.block⟩
theorem vh{ms:List IM}{j:Nat}(h:j<ms.length):dH (ms.take (j+1))=dH (ms.take j)+ms[j].size:=by
 unfold dH;rw[fD ms j h,O7,List.sum_append];simp
theorem qn{ms:List IM}(h:∀m∈ms,m.size≤40000):∀j,dH (ms.take j)≤j*40000
 |0=>by simp[dH]
 |j+1=>by
  by_cases z:j<ms.length
  ·rw[vh z];have A:=qn h j;have E:=h _ (O6 z);rw[Nat.succ_mul];exact Nat.add_le_add A E
  ·rw[Pc (by omega)];have:=qn h j;rw[Pc (by omega)] at this;rw[Nat.succ_mul];exact O0 this (Nat.le_add_right _ _)
theorem Nk{w:World}{A g n cap:Nat}{ms:List IM}(h:jc w A (sS g n cap) ms)(i:Nat)(hi:i<ms.length)(j:Nat)(z:j<11):w.cell? ⟨g,i*11+j,none⟩=(ml0 ms[i])[j]? :=by
 have E:((ms.map ml0)[i]'(by simpa using hi)).length=11:=(by rw[Po];rfl);rw[h.cell i j (by simpa using hi) (by rw[E];exact z),OZ (by show j<11;exact z)];congr 1;simp
theorem fV.belX{gs B:Nat}{w w':World}{a:OA}{c:Nat}{d:LN}(h:fV w a c d)(I:dX gs B w w')(J:0<d.length→∀p,a=some p→p.block<B∧p.block≠gs):fV w' a c d:=by
 refine⟨fun z=> ?_,h.room,h.cap,h.byte,h.nl,h.spot⟩;obtain⟨b,A,rfl,K⟩:=h.row z;obtain⟨E,G⟩:=J z _ rfl;exact⟨b,A,rfl,fun i hi=>by rw[ef (I.block b E G)];exact K i hi⟩
theorem BO(v:Value)(w:World):(callFunc 101 #[v]).run prog w= .ok (.enter 101 #[v]) w:=by
 kernel_rfl
def Hn(d:LN)(w:World)(e:Ending)(w':World):Prop:=∃(okb:Bool) (la:OA) (ln lc:Nat),e= .returned (.agg #[.bool okb,.slice la ln lc])∧lK w' w.heap.size (.agg #[.bool okb,.slice la ln lc]) (iK d)∧Below w.heap.size w w'
theorem GT{d:LN}{w:World}{e:Ending}{w':World}(h:jx d w e w'):Hn d w e w':=by
 obtain⟨v,rfl,z,E⟩:=h;cases hs:iK d with
 |none=>
  rw[hs] at z;have A:v= .agg #[.bool false,sN]:=z;subst A;exact⟨false,none,0,0,rfl,by rw[hs];exact z,E⟩
 |some l=>
  rw[hs] at z;obtain⟨J,I,rfl,A,G⟩:=z;obtain⟨a,c,rfl⟩:=G.slice;exact⟨true,a,_,c,rfl,by rw[hs];exact⟨_,I,rfl,A,G⟩,E⟩
theorem dX.high{gs B g j:Nat}{w w':World}(h:dX gs B w w')(E:B≤g)(u:Value):dX gs B w (w'.setCell ⟨g,j,none⟩ u):=
 ⟨h.os,h.tape,h.output,by simpa using h.size,fun k z A=>(OQ w' ⟨g,j,none⟩ k u (by simp;omega)).trans (h.block k z A)⟩
structure TxS(gs B cb L bx:Nat)(w wr:World)(s:IX)(g cm:Nat)(fa:OA)(fc:Nat)(d:LN)(la:OA)(lc:Nat)(vs:List S3)(l:List (Nat×Nat×LN))(fs:List FM):Prop where
 st:StX wr gs 1 s.val s.next 0 s.gen (dH s.mails) (sS g s.mails.length cm) (sN)
 ful:il wr B gs (sS g s.mails.length cm) fs
 sp:sV wr L (.slice la l.length lc) vs l
 bb:Blk wr bx #[.bool true,.slice la l.length lc] 179
 bt:Blk wr cb #[.bool true,.slice fa d.length fc] 54
 tx:fV wr fa fc d
 xx:dX gs B w wr
 sz:B≤wr.heap.size
 len:fs.length=s.mails.length
 n1:gs<B
 n2:B≤g
 n3:g<cb
 n4:cb<L
 n5:L≤bx
 nt:0<d.length→∀p,fa=some p→p.block<B∧p.block≠gs
section
variable {gs B cb L bx:Nat} {w wr:World} {s:IX} {g cm:Nat} {fa:OA} {fc:Nat} {d:LN} {la:OA} {lc:Nat} {vs:List S3} {l:List (Nat×Nat×LN)} {fs:List FM}
theorem TxS.below{wr':World}(h:TxS gs B cb L bx w wr s g cm fa fc d la lc vs l fs)(z:Below wr.heap.size wr wr'):TxS gs B cb L bx w wr' s g cm fa fc d la lc vs l fs:=
 ⟨h.st.below z h.st.lt,h.ful.below z,h.sp.below z (OV _),h.bb.below z h.bb.lt,h.bt.below z h.bt.lt,h.tx.below z,h.xx.trans (dX.of_below z h.sz),O0 h.sz z.size,h.len,h.n1,h.n2,h.n3,h.n4,h.n5,h.nt⟩
theorem TxS.put(h:TxS gs B cb L bx w wr s g cm fa fc d la lc vs l fs)(i j:Nat)(hi:i<fs.length)(O:j<11)(u:Value)(z:FM)(N:mlF z=(mlF fs[i]).set j u)
  (J:TxB wr gs (sS g s.mails.length cm) z.ba z.bc z.x.body) (K:TxB wr gs (sS g s.mails.length cm) z.ea z.ec z.x.entry):
  TxS gs B cb L bx w (wr.setCell ⟨g,i*11+j,none⟩ u) s g cm fa fc d la lc vs l (fs.set i z):=by
 have R:=h.n1;have G:=h.n2;have U:=h.n3;have V:=h.n4;have Y:=h.n5;refine⟨h.st.other (by omega) u,h.ful.put i j hi O u z N J K,⟨h.sp.1,h.sp.2.other (by omega) u⟩,h.bb.other (by omega) u,h.bt.other (by omega) u,⟨fun E=> ?_,h.tx.room,h.tx.cap,h.tx.byte,h.tx.nl,h.tx.spot⟩,h.xx.high G u,by simpa using h.sz,by simpa using h.len,R,G,U,V,Y,h.nt⟩;obtain⟨b,I,rfl,M⟩:=h.tx.row E;obtain⟨A,Z⟩:=h.nt E _ rfl;have A:b<B:=A;exact⟨b,I,rfl,fun k Q=>by rw[ef (OQ wr ⟨g,i*11+j,none⟩ b u (by simp;omega))];exact M k Q⟩
theorem TxS.body(h:TxS gs B cb L bx w wr s g cm fa fc d la lc vs l fs)(i:Nat)(hi:i<l.length):∃(A:Nat) (a:OA) (c:Nat),la=some ⟨A,0,none⟩∧wr.cell? ⟨A,i*3,none⟩=some (.int .i64 (l[i].1:Int))∧wr.cell? ⟨A,i*3+1,none⟩=some (.int .i64 (l[i].2.1:Int))∧wr.cell? ⟨A,i*3+2,none⟩=some (.slice a l[i].2.2.length c)∧TxB wr gs (sS g s.mails.length cm) a c l[i].2.2:=by
 obtain⟨A,Q,Y,R⟩:=h.sp.cells (by omega);obtain⟨x,Z,N,O,G,E⟩:=R i hi;obtain⟨a,c,e⟩:=dR.slice E;rw[e] at G E;have n1:=h.n1;have n2:=h.n2;have n3:=h.n3;have n4:=h.n4;refine⟨A,a,c,Q,N,O,G,E.row,?_,?_,?_⟩
 ·rcases E.2 with⟨z,J⟩|⟨I,G,K,z,_,_,M,_⟩
  ·rw[J];exact O4 _
  ·simp only[O3] at z;rw[z.2.2];exact M
 ·rcases E.2 with⟨z,J⟩|⟨I,G,K,z,_,_,M,V,_⟩
  ·simp only[O3] at z;rw[z.2.2];exact O4 _
  ·simp only[O3] at z;rw[z.2.2];unfold maxLen at V;omega
 ·intro p U;subst U;rcases E.2 with⟨z,J⟩|⟨I,G,K,z,k3,_⟩
  ·cases z
  ·simp only[O3,OY] at z;obtain⟨rfl,_,_⟩:=z;refine⟨rfl,fun _=>⟨?_,?_⟩⟩
   ·show I≠gs;omega
   ·simp only[Value.ownBlock,ne_eq,OY];omega
end
theorem B8{w w':World}{lo:Nat}{v:Value}{o:Option (List (Nat×Nat×LN))}(h:lK w lo v o)(G:Below w.heap.size w w'):lK w' lo v o:=by
 cases o with
 |none=>exact h
 |some l=>
  obtain⟨I,J,z,A,E⟩:=h;exact⟨I,J,z,A,E.below G (OV _)⟩
theorem rU{w:World}{lo g j:Nat}{v:Value}{o:Option (List (Nat×Nat×LN))}(h:lK w lo v o)(G:g<lo)(u:Value):lK (w.setCell ⟨g,j,none⟩ u) lo v o:=by
 cases o with
 |none=>exact h
 |some l=>
  obtain⟨I,J,z,A,E⟩:=h;exact⟨I,J,z,A,E.other G u⟩
theorem Ef{w:World}{lo z:Nat}{v:Value}{o:Option (List (Nat×Nat×LN))}(h:lK w lo v o)(I:z≤lo):lK w z v o:=by
 cases o with
 |none=>exact h
 |some l=>
  obtain⟨J,K,A,E,G⟩:=h;exact⟨J,K,A,E,G.mono I⟩
theorem Eg{z A:World}{v x y:Value}{o:Option (List (Nat×Nat×LN))}{t:TypeId}(h:lK A z.drew.heap.size v o)(I:Below z.drew.heap.size z.drew A):Blk (A.alloc (.cells #[x,y] t)) A.heap.size #[x,y] t∧lK (A.alloc (.cells #[x,y] t)) z.heap.size v o∧Below z.heap.size z (A.alloc (.cells #[x,y] t))∧z.heap.size≤A.heap.size:=by
 have E:Below z.heap.size z A:=((OX _ _).drew).trans I;have G:=nAl A (.cells #[x,y] t);exact⟨dQ _ _ _,B8 h G,E.trans (G.mono E.size),E.size⟩
theorem Eh{z A:World}{v x y E G:Value}{o:Option (List (Nat×Nat×LN))}{t:TypeId}(h:lK A (z.alloc (.cells #[E,G] t)).drew.heap.size v o)(K:Below (z.alloc (.cells #[E,G] t)).drew.heap.size (z.alloc (.cells #[E,G] t)).drew A)(L:Blk A z.heap.size #[E,G] t):
  Blk ((A.setCell ⟨z.heap.size,0,none⟩ x).setCell ⟨z.heap.size,1,none⟩ y) z.heap.size #[x,y] t∧lK ((A.setCell ⟨z.heap.size,0,none⟩ x).setCell ⟨z.heap.size,1,none⟩ y) z.heap.size v o∧Below z.heap.size z ((A.setCell ⟨z.heap.size,0,none⟩ x).setCell ⟨z.heap.size,1,none⟩ y):=by
 have e:(z.alloc (.cells #[E,G] t)).drew.heap.size=z.heap.size+1:=(by show(z.alloc _).heap.size=_;simp);have J:Below z.heap.size z (z.alloc (.cells #[E,G] t)).drew:=((OX _ _).alloc (OV _) _).drew;have I:=J.trans (K.mono (by rw[e];omega));rw[e] at h;refine⟨(L.set 0 x).set 1 y,Ef (rU (rU h (Nat.lt_succ_self _) x) (Nat.lt_succ_self _) y) (by omega),?_⟩;exact(I.setCell (p:=⟨z.heap.size,0,none⟩) (OV _) x).setCell (p:=⟨z.heap.size,1,none⟩) (OV _) y
theorem xF{d:LN}{l:List (Nat×Nat×LN)}(h:iK d=some l):∀i (hi:i<l.length),l[i].1<l[i].2.1∧l[i].2.1≤d.length∧l[i].2.2.length≤d.length∧d.length≤40000:=by
 unfold iK at h;split at h
 ·cases h
 ·next hn=>
  simp only[OY] at h;subst h;intro i hi;have A:i<(dN (eo d)).length:=(by simpa using hi);obtain⟨E,G⟩:=rV d i A;have e:((List.range (dN (eo d)).length).map (nW d (dN (eo d))))[i]=nW d (dN (eo d)) i:=(by simp);rw[e];have I:d.length≤40000:=by
   by_cases z:40000<d.length
   ·exact OH (Or.inl z) hn
   ·omega
  refine⟨E,G,?_,I⟩;show(d6 (et (gM d (dN (eo d)) i))).length≤d.length;have J:=od (et (gM d (dN (eo d)) i));have K:(et (gM d (dN (eo d)) i)).length≤(gM d (dN (eo d)) i).length:=(by unfold et;rw[Pa,O9];omega);have L:(gM d (dN (eo d)) i).length≤d.length:=(by unfold gM;rw[Pa,O9];omega);omega
theorem Fl{b:LN}(h:0<b.length):ka b=decide (b.getLast?≠some 10):=by
 unfold ka;rw[dif_pos h,List.getLast?_eq_getElem?,OZ (by omega)];simp
theorem TxB.rset{w:World}{gs g n cap k:Nat}{a:OA}{c:Nat}{d:LN}(h:TxB w gs (sS g n cap) a c d)(u:Value):TxB (w.setCell ⟨g,k,none⟩ u) gs (sS g n cap) a c d:=
 h.keep (fun p _ _ z _=>OQ w ⟨g,k,none⟩ p.block u (by intro e;exact z (by rw[e];rfl)))
section
variable {gs B cb L bx:Nat} {w wr:World} {s:IX} {g cm:Nat} {fa:OA} {fc:Nat} {d:LN} {la:OA} {lc:Nat} {vs:List S3} {l:List (Nat×Nat×LN)} {fs:List FM}
theorem TxS.reput{i:Nat}{m:FM}(h:TxS gs B cb L bx w wr s g cm fa fc d la lc vs l (fs.set i m))(j:Nat)(hi:i<fs.length)(J:j<11)(u:Value)(z:FM)(I:mlF z=(mlF m).set j u)
  (E:TxB wr gs (sS g s.mails.length cm) z.ba z.bc z.x.body) (G:TxB wr gs (sS g s.mails.length cm) z.ea z.ec z.x.entry):
  TxS gs B cb L bx w (wr.setCell ⟨g,i*11+j,none⟩ u) s g cm fa fc d la lc vs l (fs.set i z):=by
 have A:=h.put i j (by simpa using hi) J u z (by rw[Pq];exact I) E G;rw[List.set_set] at A;exact A
theorem TxS.row(h:TxS gs B cb L bx w wr s g cm fa fc d la lc vs l fs)(i:Nat)(hi:i<fs.length)(j:Nat)(z:j<11):wr.cell? ⟨g,i*11+j,none⟩=(mlF fs[i])[j]? :=h.ful.cell i j hi z
theorem TxS.c7(h:TxS gs B cb L bx w wr s g cm fa fc d la lc vs l fs):wr.cell? ⟨gs,7,none⟩=some (sS g s.mails.length cm):=h.st.cell 7
theorem TxS.fz(h:TxS gs B cb L bx w wr s g cm fa fc d la lc vs l fs)(j:Nat):wr.frozen? ⟨g,j,none⟩=false:=h.ful.frozen j
theorem TxS.newB(h:TxS gs B cb L bx w wr s g cm fa fc d la lc vs l fs){wr':World}{e:LN}(A:dR wr' wr.heap.size (sS wr.heap.size e.length e.length) e)(E:e.length≤1048576):TxB wr' gs (sS g s.mails.length cm) (some ⟨wr.heap.size,0,none⟩) e.length e:=by
 have G:=h.n1;have I:=h.n3;have J:=h.bt.lt;have K:=h.sz;refine⟨A.row,OV _,by omega,fun p z=> ?_⟩;simp only[OY] at z;subst z;refine⟨rfl,fun _=>⟨?_,?_⟩⟩
 ·show wr.heap.size≠gs;omega
 ·simp only[Value.ownBlock,ne_eq,OY];omega
theorem TxS.sub(h:TxS gs B cb L bx w wr s g cm fa fc d la lc vs l fs)(p q:Nat)(A:p<q)(E:q≤d.length):∃b z,fa=some ⟨b,z,none⟩∧dW wr (some ⟨b,z+p,none⟩) ((d.take q).drop p)∧((d.take q).drop p).length=q-p:=by
 obtain⟨b,z,rfl,_⟩:=h.tx.row (by omega);exact⟨b,z,rfl,(h.tx.row.take q).drop p,by rw[O9,Pa];omega⟩
end
end Go.Proofs.YtkkdfgnnlpohlaaGreatDoor
