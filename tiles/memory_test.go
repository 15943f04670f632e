package tiles_test

import (
	"reflect"
	"slices"
	"testing"

	"tiles/api"
	"tiles/tiles"
)

// tasks are right ones and wrong ones of every sort.
func tasks() []api.Task {
	var all []api.Task
	for _, c := range slices.Concat(rights(), faults()) {
		k := fullTask()
		c.turn(&k)
		all = append(all, k)
	}
	return all
}

// roomy is k, with spare room behind each list, which holds numbers too.
func roomy(k api.Task) api.Task {
	for _, list := range listsOf(&k) {
		n := len(*list)
		*list = append(append(make([]int, 0, n+5), *list...), 71, 72, 73, 74, 75)[:n]
	}
	return k
}

func listsOf(k *api.Task) []*[]int {
	return []*[]int{&k.Left, &k.Right, &k.Out, &k.Job.Bias, &k.Job.Factors, &k.Job.Shifts}
}

// heldBy copies all lists of k, each with its spare room.
func heldBy(k api.Task) [][]int {
	var all [][]int
	for _, list := range listsOf(&k) {
		all = append(all, slices.Clone((*list)[:cap(*list)]))
	}
	return all
}

func TestP2NothingIsWrittenInto(t *testing.T) {
	for _, k := range tasks() {
		k = roomy(k)
		before := heldBy(k)
		tiles.Check(k.Job, k.Left, k.Right, k.Out)
		if after := heldBy(k); !reflect.DeepEqual(before, after) {
			t.Errorf("Check wrote into what was handed in: %+v", k.Job)
		}
		tiles.Plan(k.Job)
		if after := heldBy(k); !reflect.DeepEqual(before, after) {
			t.Errorf("Plan wrote into what was handed in: %+v", k.Job)
		}
	}
}

// told is what Check and Plan answer.
type told struct {
	code     api.Errno
	tiles    []api.Tile
	planCode api.Errno
}

func tell(k api.Task) told {
	all, e := tiles.Plan(k.Job)
	return told{tiles.Check(k.Job, k.Left, k.Right, k.Out), all, e}
}

func TestP2JobsAgainBehindOthers(t *testing.T) {
	checkSameAgain(t, tasks(), tell)
}

func TestP2SpareRoomChangesNothing(t *testing.T) {
	for _, k := range tasks() {
		if bare, wide := tell(k), tell(roomy(k)); !reflect.DeepEqual(bare, wide) {
			t.Errorf("%+v answers %+v, with spare room %+v", k.Job, bare, wide)
		}
	}
}

// One list may be handed in as all three buffers, and as bias and scale too.
func TestP2OneListForAll(t *testing.T) {
	list := []int{1, 2, 3, 4}
	k := simpleTask(2, 2, 2)
	k.Left, k.Right, k.Out = list, list, list
	k.Job.BiasBy, k.Job.Bias = 1, list[:2]
	k.Job.ScaleBy, k.Job.Factors, k.Job.Shifts = 2, list[:2], list[2:]
	checkTask(t, "one list for all", k, api.OK)
	if !slices.Equal(list, []int{1, 2, 3, 4}) {
		t.Errorf("the list was written into: %v", list)
	}
}
