"""Jobs with links, and jobs that run from time 0 on: least lateness, most jobs on time, tightened windows."""

from eventcore.interrupted import schedule_in_time
from eventcore.jobs import check_links, check_long_jobs, check_pair_jobs, linked_order


def check_linked_jobs(jobs, links):
    """Raise the error of the first of the two arguments that is not allowed."""
    check_long_jobs(jobs)
    check_links(links, len(jobs))


def least_late_order(jobs, links):
    """Return an order that keeps the links and has the smallest greatest lateness, from time 0 on."""
    check_linked_jobs(jobs, links)
    # The last job finishes when all work is done, whichever it is: that with the greatest due time is the least late.
    return linked_order([due for _, _, due in jobs], links)


def most_on_time(jobs):
    """Return as many jobs as can all finish by their due times, from time 0 on."""
    check_long_jobs(jobs)
    kept = []
    for job in sorted(range(len(jobs)), key=lambda one: jobs[one][2]):
        kept.append(job)
        if sum([jobs[other][1] for other in kept]) > jobs[job][2]:
            # Without the longest job the others gain most time, and all of them are on time again.
            kept.remove(max(kept, key=lambda one: jobs[one][1]))
    return tuple(sorted(kept))


def fit_one_by_one(dues):
    """Tell whether jobs of one unit with these due times can all be finished by them from time 0 on."""
    return all([due > place for place, due in enumerate(sorted(dues))])


def best_units(jobs):
    """Return unit jobs with the greatest sum of weights that can all be finished by their due times."""
    check_pair_jobs(jobs)
    kept = []
    for job in sorted(range(len(jobs)), key=lambda one: -jobs[one][1]):
        if fit_one_by_one([jobs[other][0] for other in [*kept, job]]):
            kept.append(job)
    return tuple(sorted(kept))


def tightened_jobs(jobs, links):
    """Return the tightened jobs, for arguments that have been checked."""
    arrivals = [arrival for arrival, _, _ in jobs]
    dues = [due for _, _, due in jobs]
    order = linked_order(dues, links)
    for job in order:
        for before, after in links:
            if after == job:
                arrivals[job] = max(arrivals[job], arrivals[before] + jobs[before][1])
    for job in reversed(order):
        for before, after in links:
            if before == job:
                dues[job] = min(dues[job], dues[after] - jobs[after][1])
    return tuple([(arrivals[job], length, dues[job]) for job, (_, length, _) in enumerate(jobs)])


def tightened(jobs, links):
    """Return the jobs with each arrival raised and each due time lowered as little as the links force."""
    check_linked_jobs(jobs, links)
    return tightened_jobs(jobs, links)


def linked_schedule(jobs, links):
    """Return a schedule by units in which every job begins after those in front of it, or None if there is none."""
    check_linked_jobs(jobs, links)
    # In front of a link the tightened due time is smaller, so that such a job is always finished first.
    return schedule_in_time(tightened_jobs(jobs, links))
