package heap_test

import (
	"math/rand"
	"slices"
	"testing"

	"cspcheck/api"
	"cspcheck/heap"
)

// pair is a heap beside the second implementation, on which the same calls are made.
type pair struct {
	*testing.T
	r      *rand.Rand
	heap   *heap.Heap
	oracle *oracle
}

func newPair(t *testing.T, r *rand.Rand) *pair {
	most := 1 + r.Intn(30)
	return &pair{t, r, empty(t, most), &oracle{most: most}}
}

// number returns a number that is mostly one of a cell.
func (p *pair) number() int {
	size := p.heap.Size()
	if size == 0 || p.r.Intn(30) == 0 {
		return []int{-1, size, size + 1, -1 << 63}[p.r.Intn(4)]
	}
	return p.r.Intn(size)
}

func (p *pair) numbers(most int) []int {
	var l []int
	for range p.r.Intn(most + 1) {
		l = append(l, p.number())
	}
	return l
}

// cell returns a cell that is mostly one of these kinds.
func (p *pair) cell(kinds ...int) api.Cell {
	kind := kinds[p.r.Intn(len(kinds))]
	if p.r.Intn(30) == 0 {
		kind = p.r.Intn(api.CellData+18) - 1
	}
	return api.Cell{Kind: kind, Num: p.r.Intn(1000), Refs: p.numbers(3)}
}

func (p *pair) alloc() {
	c := p.cell(api.CellThunk, api.CellThunk, api.CellData, api.CellData+15)
	r, err := p.heap.Alloc(c)
	if want, wantErr := p.oracle.alloc(c); r != want || err != wantErr {
		p.Fatalf("Alloc(%s) is %d, error %d, want %d, error %d", text(c), r, err, want, wantErr)
	}
}

func (p *pair) enter() {
	r := p.number()
	c, err := p.heap.Enter(r)
	if want, wantErr := p.oracle.enter(r); !equal(c, want) || err != wantErr {
		p.Fatalf("Enter(%d) is %s, error %d, want %s, error %d", r, text(c), err, text(want), wantErr)
	}
}

func (p *pair) update() {
	r, to := p.number(), p.number()
	err := p.heap.Update(r, to)
	if want := p.oracle.update(r, to); err != want {
		p.Fatalf("Update(%d, %d) is error %d, want %d", r, to, err, want)
	}
}

func (p *pair) restore() {
	r, c := p.number(), p.cell(api.CellThunk)
	err := p.heap.Restore(r, c)
	if want := p.oracle.restore(r, c); err != want {
		p.Fatalf("Restore(%d, %s) is error %d, want %d", r, text(c), err, want)
	}
}

func (p *pair) reach(roots []int) {
	l := p.heap.Reach(roots)
	if want := p.oracle.reach(roots); !slices.Equal(l, want) {
		p.Fatalf("Reach(%v) is %v, want %v", roots, l, want)
	}
}

func (p *pair) read(r int) {
	c, at, err := p.heap.Read(r)
	if want, wantAt, wantErr := p.oracle.read(r); !equal(c, want) || at != wantAt || err != wantErr {
		p.Fatalf("Read(%d) is %s at %d, error %d, want %s at %d, error %d", r, text(c), at, err, text(want), wantAt, wantErr)
	}
}

func (p *pair) compact(roots []int) []int {
	l := p.heap.Compact(roots)
	if want := p.oracle.compact(roots); !slices.Equal(l, want) {
		p.Fatalf("Compact(%v) is %v, want %v", roots, l, want)
	}
	return l
}

// compare compares all cells. What is reached from a link tells the cell that it leads to.
func (p *pair) compare() {
	if p.heap.Size() != len(p.oracle.cells) {
		p.Fatalf("the size is %d, want %d", p.heap.Size(), len(p.oracle.cells))
	}
	for r := -1; r <= p.heap.Size(); r++ {
		p.read(r)
		p.reach([]int{r})
	}
}

// step makes a random call that changes the heap, but not Compact.
func (p *pair) step() {
	switch p.r.Intn(10) {
	case 0, 1:
		p.alloc()
	case 2, 3, 4:
		p.enter()
	case 5, 6, 7, 8:
		p.update()
	default:
		p.restore()
	}
}

func TestRandomCalls(t *testing.T) {
	r := rand.New(rand.NewSource(1))
	for range 3000 {
		p := newPair(t, r)
		// Some heaps are read only rarely, because Read may change how links are followed.
		odds := 1 + r.Intn(40)
		for range 10 + r.Intn(150) {
			p.step()
			if r.Intn(60) == 0 {
				p.compact(p.numbers(8))
			}
			if r.Intn(odds) == 0 {
				p.compare()
			}
		}
		p.reach(p.numbers(5))
		p.compare()
	}
}

func TestConsequences(t *testing.T) {
	r := rand.New(rand.NewSource(2))
	for range 3000 {
		p := newPair(t, r)
		for range 10 + r.Intn(120) {
			p.step()
		}
		roots := p.numbers(6)
		before := p.unfold(roots)
		numbers := p.compact(roots)
		if after := p.unfold(numbers); !slices.EqualFunc(before, after, equal) {
			t.Fatalf("before Compact, Read finds %v, and %v after it", before, after)
		}
		if again := p.compact(numbers); !slices.Equal(again, numbers) {
			t.Fatalf("Compact(%v) is %v after Compact", numbers, again)
		}
		if again := p.unfold(numbers); !slices.EqualFunc(before, again, equal) {
			t.Fatalf("before Compact, Read finds %v, and %v after two of them", before, again)
		}
	}
}

// unfold returns the cells that Read finds from the roots on, in the order in which a search finds them, which is also the numbering of their Refs.
func (p *pair) unfold(roots []int) []api.Cell {
	var found []int
	var cells []api.Cell
	number := func(r int) int {
		c, at, err := p.heap.Read(r)
		if err != api.OK {
			return -1
		}
		i := slices.Index(found, at)
		if i < 0 {
			i = len(found)
			found, cells = append(found, at), append(cells, c)
		}
		return i
	}
	renumber := func(l []int) []int {
		var out []int
		for _, r := range l {
			out = append(out, number(r))
		}
		return out
	}
	first := api.Cell{Refs: renumber(roots)}
	for i := 0; i < len(cells); i++ {
		cells[i].Refs = renumber(cells[i].Refs)
	}
	return append(cells, first)
}
