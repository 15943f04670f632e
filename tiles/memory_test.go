package tiles_test

import (
	"math/rand"
	"reflect"
	"slices"
	"testing"

	"tiles/api"
	"tiles/tiles"
)

// tasks are right ones and wrong ones of every sort.
func tasks() []api.Task {
	var all []api.Task
	for _, c := range slices.Concat(rights(), faults()) {
		k := fullTask()
		c.turn(&k)
		all = append(all, k)
	}
	r := rand.New(rand.NewSource(18))
	for range 200 {
		all = append(all, anyTask(r, anySide(r), anySide(r), anySide(r)))
	}
	return all
}

// roomy is k, with spare room behind each list, which holds numbers too.
func roomy(k api.Task) api.Task {
	for _, list := range listsOf(&k) {
		n := len(*list)
		*list = append(append(make([]int, 0, n+5), *list...), 71, 72, 73, 74, 75)[:n]
	}
	return k
}

func listsOf(k *api.Task) []*[]int {
	return []*[]int{&k.Left, &k.Right, &k.Out, &k.Job.Bias, &k.Job.Factors, &k.Job.Shifts}
}

// heldBy copies all lists of k, each with its spare room.
func heldBy(k api.Task) [][]int {
	var all [][]int
	for _, list := range listsOf(&k) {
		all = append(all, slices.Clone((*list)[:cap(*list)]))
	}
	return all
}

func TestP2NothingIsWrittenInto(t *testing.T) {
	for _, k := range tasks() {
		k = roomy(k)
		before := heldBy(k)
		tiles.Check(k.Job, k.Left, k.Right, k.Out)
		if after := heldBy(k); !reflect.DeepEqual(before, after) {
			t.Errorf("Check wrote into what was handed in: %+v", k.Job)
		}
		tiles.Plan(k.Job)
		if after := heldBy(k); !reflect.DeepEqual(before, after) {
			t.Errorf("Plan wrote into what was handed in: %+v", k.Job)
		}
		tiles.Multiply(k.Job, k.Left, k.Right, k.Out)
		if after := heldBy(k); !reflect.DeepEqual(before, after) {
			t.Errorf("Multiply wrote into what was handed in: %+v", k.Job)
		}
	}
}

// told is what Check, Plan and Multiply answer.
type told struct {
	code        api.Errno
	tiles       []api.Tile
	planCode    api.Errno
	out         []int
	productCode api.Errno
}

func tell(k api.Task) told {
	all, e := tiles.Plan(k.Job)
	out, c := tiles.Multiply(k.Job, k.Left, k.Right, k.Out)
	return told{tiles.Check(k.Job, k.Left, k.Right, k.Out), all, e, out, c}
}

func TestP2JobsAgainBehindOthers(t *testing.T) {
	checkSameAgain(t, tasks(), tell)
}

func TestP2SpareRoomChangesNothing(t *testing.T) {
	for _, k := range tasks() {
		if bare, wide := tell(k), tell(roomy(k)); !reflect.DeepEqual(bare, wide) {
			t.Errorf("%+v answers %+v, with spare room %+v", k.Job, bare, wide)
		}
	}
}

// One list may be handed in as all three buffers, and as bias and scale too.
func TestP2OneListForAll(t *testing.T) {
	list := []int{1, 2, 3, 4}
	k := simpleTask(2, 2, 2)
	k.Left, k.Right, k.Out = list, list, list
	k.Job.BiasBy, k.Job.Bias = 1, list[:2]
	k.Job.ScaleBy, k.Job.Factors, k.Job.Shifts = 2, list[:2], list[2:]
	checkTask(t, "one list for all", k, api.OK)
	checkMultiply(t, "one list for all", k, wantMultiply(k))
	if !slices.Equal(list, []int{1, 2, 3, 4}) {
		t.Errorf("the list was written into: %v", list)
	}
}

func TestP2ProductsAreNewMemory(t *testing.T) {
	for _, k := range tasks() {
		k = roomy(k)
		before := heldBy(k)
		first, _ := tiles.Multiply(k.Job, k.Left, k.Right, k.Out)
		want := slices.Clone(first)
		second, _ := tiles.Multiply(k.Job, k.Left, k.Right, k.Out)
		spoil(first, -7)
		if !slices.Equal(second, want) {
			t.Errorf("what comes out second shares memory with what came out first: %+v", k.Job)
		}
		// Behind the end of an answer, too, nothing of what was handed in may lie.
		spoil(append(second, -8), -9)
		if after := heldBy(k); !reflect.DeepEqual(before, after) {
			t.Errorf("what comes out shares memory with what was handed in: %+v", k.Job)
		}
		if third, _ := tiles.Multiply(k.Job, k.Left, k.Right, k.Out); !slices.Equal(third, want) {
			t.Errorf("what was written into an answer came back: %+v", k.Job)
		}
	}
}

// What is written into an argument behind the call is not seen in its answer.
func TestP2NothingIsKept(t *testing.T) {
	for _, k := range tasks() {
		want, _ := tiles.Multiply(k.Job, k.Left, k.Right, k.Out)
		k = roomy(k)
		got, _ := tiles.Multiply(k.Job, k.Left, k.Right, k.Out)
		for _, list := range listsOf(&k) {
			spoil(*list, -7)
		}
		if !slices.Equal(got, want) {
			t.Errorf("an answer changed with what was handed in: %+v", k.Job)
		}
	}
}
