package queue

import (
	"slices"

	"remontoir/api"
	"remontoir/turn"
)

// line is a heap of jobs as container/heap wants it: the job whose turn is next is the first one.
type line struct {
	aging int
	jobs  []api.Wait
}

// Len returns the number of jobs.
func (l *line) Len() int { return len(l.jobs) }

// Less reports whether the job at i is taken before that at j.
func (l *line) Less(i, j int) bool { return turn.Less(l.aging, l.jobs[i], l.jobs[j]) }

// Swap exchanges the jobs at i and j.
func (l *line) Swap(i, j int) { l.jobs[i], l.jobs[j] = l.jobs[j], l.jobs[i] }

// Push appends a job; heap.Push brings it to its place.
func (l *line) Push(job any) { l.jobs = append(l.jobs, job.(api.Wait)) }

// Pop removes and returns the last job, where heap.Pop and heap.Remove have brought the one that they remove.
func (l *line) Pop() any {
	last := len(l.jobs) - 1
	job := l.jobs[last]
	l.jobs = l.jobs[:last]
	return job
}

// place returns the index of the job id, or -1 if it is not in the line.
func (l *line) place(id int) int {
	return slices.IndexFunc(l.jobs, func(w api.Wait) bool { return w.Id == id })
}
