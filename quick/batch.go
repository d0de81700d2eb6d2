package quick

import "warden/api"

// Doer does jobs one by one.
type Doer interface {
	Admin(a api.Admin) api.Errno
	Answer(now int64, request []byte) []byte
}

// Batch has some jobs done, in their order.
func Batch(by Doer, jobs []api.Job) ([]api.Done, api.Errno) {
	if len(jobs) > api.MaxBatch {
		return nil, api.ErrFull
	}
	out := make([]api.Done, len(jobs))
	for i, job := range jobs {
		out[i] = do(by, job)
	}
	return out, api.OK
}

func do(by Doer, job api.Job) api.Done {
	if job.Admin.Kind != 0 {
		return api.Done{Errno: by.Admin(job.Admin)}
	}
	return api.Done{Reply: by.Answer(job.Now, job.Request)}
}
